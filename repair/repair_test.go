package repair_test

import (
	"math"
	"slices"
	"testing"

	"althing/api"
	"althing/repair"
)

func TestP13_1EachCase(t *testing.T) {
	pre, quick, acc, com := state(4, 1, low), kept(state(5, 1, zero)), state(6, 2, low), state(7, 3, zero)
	for _, c := range []struct {
		name string
		a, b api.Record
		want api.Record
	}{
		{"nobody knows it", nothing(), nothing(), noop(here)},
		{"committed", nothing(), com, as(3, com)},
		{"committed, with the zero ballot", state(8, 2, high), com, as(3, com)},
		{"committed, with a great ballot", state(8, 3, high), acc, as(3, state(8, 3, high))},
		{"committed twice", state(8, 3, low), state(9, 3, high), as(3, state(8, 3, low))},
		{"committed, and may be fast", quick, com, as(3, com)},
		{"committed, and pre-accepted", state(9, 1, high), com, as(3, com)},
		{"accepted", nothing(), acc, as(2, acc)},
		{"accepted with the zero ballot", nothing(), state(9, 2, zero), as(2, state(9, 2, zero))},
		{"accepted twice", acc, state(9, 2, mid), as(2, state(9, 2, mid))},
		{"accepted twice, the other way", state(9, 2, mid), acc, as(2, state(9, 2, mid))},
		{"accepted by replicas of other ballots", state(8, 2, mid), state(9, 2, high), as(2, state(9, 2, high))},
		{"accepted with the same ballot", state(8, 2, mid), state(9, 2, mid), as(2, state(8, 2, mid))},
		{"accepted, and pre-accepted", state(9, 1, high), acc, as(2, acc)},
		{"accepted, and may be fast", quick, acc, as(2, acc)},
		{"may be fast", quick, nothing(), as(2, quick)},
		{"may be fast, known by the other one", nothing(), quick, as(2, quick)},
		{"may be fast, twice", kept(state(9, 1, zero)), quick, as(2, kept(state(9, 1, zero)))},
		{"may be fast, and changed", state(9, 1, zero), quick, as(2, quick)},
		{"may be fast, and a greater ballot", state(9, 1, high), quick, as(2, quick)},
		{"may be fast, and kept with a greater ballot", kept(state(9, 1, high)), quick, as(2, quick)},
		{"pre-accepted", nothing(), pre, as(1, pre)},
		{"pre-accepted, changed", nothing(), state(9, 1, zero), as(1, state(9, 1, zero))},
		{"pre-accepted, kept with another ballot", nothing(), kept(state(9, 1, low)), as(1, state(9, 1, low))},
		{"pre-accepted twice", pre, state(9, 1, mid), as(1, state(9, 1, mid))},
		{"pre-accepted twice, the other way", kept(state(9, 1, mid)), pre, as(1, state(9, 1, mid))},
		{"pre-accepted by replicas of other ballots", state(8, 1, high), state(9, 1, mid), as(1, state(8, 1, high))},
		{"pre-accepted with the same ballot", state(8, 1, mid), kept(state(9, 1, mid)), as(1, state(8, 1, mid))},
	} {
		checkDecide(t, c.name, 1, here, []repair.Vote{vote(0, c.a), vote(2, c.b)}, c.want, api.OK)
	}
}

// What the instance's own replica tells: it has decided nothing yet, so nothing was fast.
func TestP13_1EachCaseWithTheOwnReplica(t *testing.T) {
	pre, quick, acc, com := state(4, 1, low), kept(state(5, 1, zero)), state(6, 2, low), state(7, 3, low)
	for _, c := range []struct {
		name  string
		a     api.Record
		other api.Record
		want  api.Record
	}{
		{"nobody knows it", nothing(), nothing(), noop(here)},
		{"it proposed it", quick, nothing(), as(1, quick)},
		{"it proposed it, and the other one kept it", quick, kept(state(8, 1, zero)), as(1, quick)},
		{"only the other one knows it", nothing(), quick, as(1, quick)},
		{"it has another ballot", pre, quick, as(1, pre)},
		{"it accepted it", acc, quick, as(2, acc)},
		{"it committed it", com, quick, as(3, com)},
		{"the other one committed it", quick, com, as(3, com)},
	} {
		l := []repair.Vote{vote(own, c.a), vote(0, c.other)}
		checkDecide(t, c.name, 1, here, l, c.want, api.OK)
		checkFast(t, c.name, 1, here, l, false)
	}
}

// All that a result has comes from one vote, up to the greatest numbers.
func TestP13_1TheWholeResult(t *testing.T) {
	c := validate(3)
	c.Kind, c.Commit = api.Decide, true
	for k := range c.Reads {
		c.Reads[k].Version = api.Stamp{Time: 2, Client: 3}
	}
	for _, status := range []int{api.PreAccept, api.Accepted, api.Committed} {
		for _, r := range []api.Record{
			{Cmd: c, Seq: top, Deps: api.Deps{last, last, last, last, last, last, last}},
			{Seq: 1},
			{Cmd: validate(9), Seq: 8, Deps: api.Deps{1, 2, 3, 4, 5, 6, 7}},
		} {
			r.Inst, r.Status, r.Promise, r.Ballot = here, status, api.Ballot{Number: top, Replica: 6}, api.Ballot{Number: top, Replica: 5}
			checkDecide(t, "the whole result", 3, here, []repair.Vote{vote(3, nothing()), vote(6, r), vote(own, nothing()), vote(5, nothing())}, as(status, r), api.OK)
		}
	}
}

// The first and the last instance of each replica, voted on by each majority that there is.
func TestP13_1EachInstance(t *testing.T) {
	for f := 1; f <= 3; f++ {
		for replica := range 2*f + 1 {
			for _, slot := range []int{1, 2, last - 1, last} {
				i := api.Instance{Replica: replica, Slot: slot}
				at := func(r *api.Record) { r.Inst = i }
				com := with(state(7, 3, low), at)
				for first := range 2*f + 1 {
					l := []repair.Vote{vote(first, com)}
					for k := range f {
						l = append(l, vote((first+1+k)%(2*f+1), with(nothing(), at)))
					}
					checkDecide(t, "committed", f, i, l, with(as(3, com), at), api.OK)
					l[0].R = with(nothing(), at)
					checkDecide(t, "nobody knows it", f, i, l, noop(i), api.OK)
				}
			}
		}
	}
}

func TestP13_1ArgumentsThatMayNotBe(t *testing.T) {
	good := []repair.Vote{vote(0, state(7, 3, low)), vote(2, nothing())}
	for _, f := range []int{math.MinInt, -3, -1, 0, 4, 5, 6, 7, 1 << 32, 1<<32 + 1, math.MaxInt} {
		for _, l := range [][]repair.Vote{nil, good, good[:1]} {
			checkDecide(t, "a wrong F", f, here, l, api.Record{}, api.ErrArg)
			checkFast(t, "a wrong F", f, here, l, false)
		}
	}
	for f := 1; f <= 3; f++ {
		for _, i := range append(wrongInstances(), api.Instance{Replica: 2*f + 1, Slot: 1}) {
			at := func(r *api.Record) { r.Inst = i }
			var l []repair.Vote
			for k := range 2*f + 1 {
				l = append(l, vote(k, with(kept(state(7, 1, zero)), at)))
				checkDecide(t, "a wrong instance", f, i, l, api.Record{}, api.ErrArg)
				checkFast(t, "a wrong instance", f, i, l, false)
			}
			checkDecide(t, "a wrong instance without votes", f, i, nil, api.Record{}, api.ErrArg)
			checkDecide(t, "a wrong instance, and votes on another one", f, i, good, api.Record{}, api.ErrArg)
		}
	}
}

func wrongInstances() []api.Instance {
	l := []api.Instance{{}}
	for _, replica := range notReplicas() {
		l = append(l, api.Instance{Replica: replica, Slot: 1})
	}
	for _, slot := range []int{math.MinInt, -1, 0, last + 1, 1 << 32, 1<<32 + 1, math.MaxInt} {
		l = append(l, api.Instance{Replica: own, Slot: slot})
	}
	return l
}

// unchanged are votes of all but the instance's own replica, each of which has what that one proposed.
func unchanged(f int) []repair.Vote {
	var l []repair.Vote
	for k := range 2*f + 1 {
		if k != own {
			l = append(l, vote(k, kept(state(5, 1, zero))))
		}
	}
	return l
}

// A vote that may not be is refused wherever it stands, and whether the others would do or not.
func TestP13_1VotesThatMayNotBe(t *testing.T) {
	for f := 1; f <= 3; f++ {
		good := unchanged(f)
		checkDecide(t, "without a wrong vote", f, here, good, as(2, good[0].R), api.OK)
		checkFast(t, "without a wrong vote", f, here, good, true)
		for name, r := range wrong() {
			for at := range len(good) {
				l := slices.Clone(good)
				l[at].R = r
				checkDecide(t, name, f, here, l, api.Record{}, api.ErrArg)
				checkFast(t, name, f, here, l, false)
			}
			checkDecide(t, name+", alone", f, here, []repair.Vote{vote(0, r)}, api.Record{}, api.ErrArg)
			checkDecide(t, name+", of its own replica", f, here, append([]repair.Vote{vote(own, r)}, good...), api.Record{}, api.ErrArg)
		}
		for _, from := range append(notReplicas(), 2*f+1, 2*f+2) {
			for at := range len(good) + 1 {
				l := slices.Insert(slices.Clone(good), at, vote(from, nothing()))
				checkDecide(t, "of no replica", f, here, l, api.Record{}, api.ErrArg)
				checkFast(t, "of no replica", f, here, l, false)
			}
			checkDecide(t, "alone, of no replica", f, here, []repair.Vote{vote(from, nothing())}, api.Record{}, api.ErrArg)
		}
	}
}

// Fewer than F + 1 replicas are waited for, whatever they know, and however often they tell it.
func TestP13_1TooFewVotes(t *testing.T) {
	for f := 1; f <= 3; f++ {
		checkDecide(t, "no votes", f, here, nil, api.Record{}, api.ErrWait)
		checkDecide(t, "no votes", f, here, []repair.Vote{}, api.Record{}, api.ErrWait)
		checkFast(t, "no votes", f, here, nil, false)
		for _, r := range states(4) {
			var l []repair.Vote
			for k := range f {
				l = append(l, vote(2*f-k, r))
			}
			checkDecide(t, "F votes", f, here, l, api.Record{}, api.ErrWait)
			checkFast(t, "F votes", f, here, l, false)
			l = slices.Concat(l, l, l, l, l, l, l, l)
			checkDecide(t, "F votes again and again", f, here, l, api.Record{}, api.ErrWait)
			checkFast(t, "F votes again and again", f, here, l, false)
			l = append(l, vote(0, nothing()))
			want, _ := decide(f, here, l)
			checkDecide(t, "and one more", f, here, l, want, api.OK)
		}
	}
}

// Of several votes of a replica the first one counts, and no other one: not for what is chosen, and not for what may not be.
func TestP13_1TheFirstVoteOfAReplica(t *testing.T) {
	acc := state(6, 2, low)
	good := []repair.Vote{vote(0, acc), vote(2, nothing())}
	for _, r := range append(states(8), state(8, 3, api.Ballot{Number: 9, Replica: 2})) {
		for _, from := range []int{0, 2} {
			l := append(slices.Clone(good), vote(from, r))
			checkDecide(t, "a second vote", 1, here, l, as(2, acc), api.OK)
			checkFast(t, "a second vote", 1, here, l, false)
		}
	}
	for name, r := range wrong() {
		l := []repair.Vote{vote(0, acc), vote(0, r), vote(2, nothing()), vote(0, r), vote(2, r)}
		checkDecide(t, name+" as a second vote", 1, here, l, as(2, acc), api.OK)
		l = []repair.Vote{vote(0, r), vote(0, acc), vote(2, nothing())}
		checkDecide(t, name+" as a first vote", 1, here, l, api.Record{}, api.ErrArg)
	}
	quick := kept(state(5, 1, zero))
	l := []repair.Vote{vote(0, nothing()), vote(2, nothing()), vote(0, quick), vote(2, quick)}
	checkDecide(t, "unchanged only later", 1, here, l, noop(here), api.OK)
	checkFast(t, "unchanged only later", 1, here, l, false)
	slices.Reverse(l)
	checkDecide(t, "unchanged only at first", 1, here, l, as(2, quick), api.OK)
	checkFast(t, "unchanged only at first", 1, here, l, true)
}

// Another vote counts in the place where its replica told it first.
func TestP13_1TheOrderIsThatOfTheFirstVotes(t *testing.T) {
	a, b, c := state(4, 2, mid), state(5, 2, mid), state(6, 2, mid)
	checkDecide(t, "three votes", 1, here, []repair.Vote{vote(2, c), vote(0, a), vote(1, b)}, as(2, c), api.OK)
	checkDecide(t, "another order", 1, here, []repair.Vote{vote(1, b), vote(2, c), vote(0, a)}, as(2, b), api.OK)
	checkDecide(t, "told twice", 1, here, []repair.Vote{vote(1, b), vote(0, a), vote(1, c), vote(0, c)}, as(2, b), api.OK)
}

// A great number of votes ends, and says the same as the few of them that count.
func TestP13_1VeryManyVotes(t *testing.T) {
	var l []repair.Vote
	for k := range 100000 {
		l = append(l, vote([]int{4, 0, 3}[k%3], state(k+1, 2, low)))
	}
	checkDecide(t, "three replicas again and again", 2, here, l, as(2, state(1, 2, low)), api.OK)
	checkDecide(t, "three replicas of seven", 3, here, l, api.Record{}, api.ErrWait)
	for k := range l {
		l[k].From = k
	}
	checkDecide(t, "of more replicas than there are", 3, here, l, api.Record{}, api.ErrArg)
}

func TestP13_2Fast(t *testing.T) {
	quick, changed, none := kept(state(5, 1, zero)), state(5, 1, zero), nothing()
	for _, c := range []struct {
		name  string
		f     int
		votes []api.Record // of replicas 0, 2, 3, ..
		want  bool
	}{
		{"all", 1, []api.Record{quick, quick}, true},
		{"one of two", 1, []api.Record{quick, none}, true},
		{"the second of two", 1, []api.Record{none, quick}, true},
		{"none", 1, []api.Record{none, none}, false},
		{"changed", 1, []api.Record{changed, none}, false},
		{"kept with another ballot", 1, []api.Record{kept(state(5, 1, low)), none}, false},
		{"kept with a ballot of another replica", 1, []api.Record{kept(state(5, 1, api.Ballot{Replica: 1})), none}, false},
		{"kept with a ballot of another number", 1, []api.Record{kept(state(5, 1, api.Ballot{Number: 1})), none}, false},
		{"accepted", 1, []api.Record{state(5, 2, zero), none}, false},
		{"committed", 1, []api.Record{state(5, 3, zero), state(5, 3, zero)}, false},
		{"unchanged, and accepted", 1, []api.Record{quick, state(6, 2, high)}, true},
		{"unchanged, and committed", 1, []api.Record{state(6, 3, high), quick}, true},
		{"unchanged, and a greater ballot", 1, []api.Record{state(6, 1, high), quick}, true},
		{"two of three", 2, []api.Record{quick, none, kept(state(6, 1, zero))}, true},
		{"one of three", 2, []api.Record{none, quick, none}, false},
		{"one of four", 2, []api.Record{none, quick, none, none}, false},
		{"one of three, and changed", 2, []api.Record{changed, quick, changed}, false},
		{"two of four", 2, []api.Record{none, quick, quick, changed}, true},
		{"four of four", 2, []api.Record{quick, quick, quick, quick}, true},
		{"three of four", 3, []api.Record{quick, quick, none, quick}, true},
		{"two of four", 3, []api.Record{quick, none, none, quick}, false},
		{"two of six", 3, []api.Record{quick, none, none, quick, none, none}, false},
		{"three of six", 3, []api.Record{quick, none, changed, quick, none, quick}, true},
		{"six of six", 3, []api.Record{quick, quick, quick, quick, quick, quick}, true},
	} {
		var l []repair.Vote
		for k, r := range c.votes {
			l = append(l, vote([]int{0, 2, 3, 4, 5, 6}[k], r))
		}
		checkFast(t, c.name, c.f, here, l, c.want)
		for _, r := range states(5) {
			checkFast(t, c.name+", and its own replica", c.f, here, append(slices.Clone(l), vote(own, r)), false)
			checkFast(t, "its own replica, and "+c.name, c.f, here, append([]repair.Vote{vote(own, r)}, l...), false)
		}
	}
}

// It is the instance that says which replica's vote rules it out.
func TestP13_2FastOfEachInstance(t *testing.T) {
	for f := 1; f <= 3; f++ {
		for replica := range 2*f + 1 {
			i := api.Instance{Replica: replica, Slot: last}
			var l []repair.Vote
			for k := 1; k <= 2*f; k++ {
				l = append(l, vote((replica+k)%(2*f+1), with(kept(state(5, 1, zero)), func(r *api.Record) { r.Inst = i })))
				checkFast(t, "those behind its own", f, i, l, len(l) > f)
			}
			l = append(l, vote(replica, l[0].R))
			checkFast(t, "all", f, i, l, false)
			checkFast(t, "all but another one", f, i, l[1:], false)
		}
	}
}
