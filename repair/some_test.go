package repair_test

import (
	"math"
	"slices"
	"testing"

	"althing/api"
	"althing/repair"
	"althing/wire"
)

const (
	top  = 1 << 40 // the greatest number
	last = 1 << 20 // the greatest slot
	own  = 1       // the replica of the instance here
)

// zero is the ballot with which an instance begins; low, mid and high are behind it, in this order. Neither the numbers alone nor the replicas alone tell the order.
var (
	zero = api.Ballot{}
	low  = api.Ballot{Number: 1, Replica: 5}
	mid  = api.Ballot{Number: 3, Replica: 1}
	high = api.Ballot{Number: 3, Replica: 4}
)

// here is the instance of most votes.
var here = api.Instance{Replica: own, Slot: 3}

func ballots() []api.Ballot {
	return []api.Ballot{zero, low, mid, high}
}

// notReplicas are numbers of replicas that no shard has.
func notReplicas() []int {
	return []int{math.MinInt, -1 << 32, -7, -1, 7, 8, 1 << 32, 1<<32 + 1, math.MaxInt}
}

func validate(number int) api.Command {
	return api.Command{
		Kind: api.Validate, Txn: api.Txn{Client: 1, Number: number}, At: api.Stamp{Time: number + 1, Client: 1}, Shards: 5,
		Reads:  []api.Read{{Key: "a", Version: api.Stamp{Time: number, Client: 2}}, {Key: "c"}},
		Writes: []api.Write{{Key: "a", Value: "v"}},
	}
}

// state is a valid record of here; those with other numbers have other commands, Seq and Deps.
func state(number, status int, ballot api.Ballot) api.Record {
	r := api.Record{Inst: here, Status: status, Promise: api.Ballot{Number: 9, Replica: 2}}
	if status != api.None {
		r.Ballot, r.Cmd, r.Seq, r.Deps = ballot, validate(number), number, api.Deps{number, 0, 2, 0, 0, 0, last}
	}
	return r
}

func kept(r api.Record) api.Record {
	r.Kept = true
	return r
}

// nothing is what a replica tells that does not know the instance.
func nothing() api.Record {
	return state(0, api.None, zero)
}

// with is a record of which something is changed.
func with(r api.Record, change func(r *api.Record)) api.Record {
	change(&r)
	return r
}

func vote(from int, r api.Record) repair.Vote {
	return repair.Vote{From: from, R: r}
}

// as is what is done with a record: what of it goes on, as this Status.
func as(status int, r api.Record) api.Record {
	return api.Record{Inst: here, Status: status, Cmd: r.Cmd, Seq: r.Seq, Deps: r.Deps, Kept: status == 1}
}

// noop is what is done if nobody knows anything.
func noop(i api.Instance) api.Record {
	return api.Record{Inst: i, Status: 2, Seq: 1}
}

// states are all valid records of here, as far as they differ in what matters.
func states(number int) []api.Record {
	l := []api.Record{nothing(), with(nothing(), func(r *api.Record) { r.Promise = zero })}
	for _, b := range ballots() {
		for status := api.PreAccept; status <= api.Committed; status++ {
			l = append(l, state(number, status, b))
		}
		l = append(l, kept(state(number, api.PreAccept, b)))
	}
	return l
}

// wrong are records that a vote on here may not have.
func wrong() map[string]api.Record {
	r := state(4, api.PreAccept, low)
	return map[string]api.Record{
		"no record":                 {},
		"another slot":              with(r, func(r *api.Record) { r.Inst.Slot = 4 }),
		"another replica":           with(r, func(r *api.Record) { r.Inst.Replica = 0 }),
		"no slot":                   with(r, func(r *api.Record) { r.Inst.Slot = 0 }),
		"a Status of -1":            with(r, func(r *api.Record) { r.Status = -1 }),
		"a Status of 4":             with(r, func(r *api.Record) { r.Status = 4 }),
		"a Promise below 0":         with(r, func(r *api.Record) { r.Promise.Number = -1 }),
		"a Promise of no replica":   with(r, func(r *api.Record) { r.Promise.Replica = 7 }),
		"a Ballot above 2^40":       with(r, func(r *api.Record) { r.Promise.Number, r.Ballot.Number = top+1, top+1 }),
		"a Ballot above a Promise":  with(r, func(r *api.Record) { r.Promise = zero }),
		"a command of no kind":      with(r, func(r *api.Record) { r.Cmd.Kind = 3 }),
		"a command without order":   with(r, func(r *api.Record) { r.Cmd.Reads = []api.Read{{Key: "c"}, {Key: "a"}} }),
		"a Seq of 0":                with(r, func(r *api.Record) { r.Seq = 0 }),
		"a Seq above 2^40":          with(r, func(r *api.Record) { r.Seq = top + 1 }),
		"Deps below 0":              with(r, func(r *api.Record) { r.Deps[6] = -1 }),
		"Deps above 2^20":           with(r, func(r *api.Record) { r.Deps[0] = last + 1 }),
		"Accepted, Kept":            kept(state(4, api.Accepted, low)),
		"Committed, Kept":           kept(state(4, api.Committed, low)),
		"None, Kept":                kept(nothing()),
		"None with a Ballot":        with(nothing(), func(r *api.Record) { r.Ballot = low }),
		"None with a command":       with(nothing(), func(r *api.Record) { r.Cmd = validate(4) }),
		"None with a Seq":           with(nothing(), func(r *api.Record) { r.Seq = 1 }),
		"None with Deps":            with(nothing(), func(r *api.Record) { r.Deps[2] = 1 }),
		"None of another instance":  with(nothing(), func(r *api.Record) { r.Inst.Slot = 2 }),
		"Committed and of another":  with(state(4, api.Committed, low), func(r *api.Record) { r.Inst.Replica = 2 }),
		"Committed and without Seq": with(state(4, api.Committed, low), func(r *api.Record) { r.Seq = 0 }),
	}
}

// counted are the votes that count, told by looking for each replica among those ahead.
func counted(l []repair.Vote) []repair.Vote {
	var some []repair.Vote
	for k, v := range l {
		if !slices.ContainsFunc(l[:k], func(w repair.Vote) bool { return w.From == v.From }) {
			some = append(some, v)
		}
	}
	return some
}

// refused is what the document says of the arguments.
func refused(f int, i api.Instance, votes []repair.Vote) api.Errno {
	if f < 1 || f > 3 || i.Replica < 0 || i.Replica > 2*f || i.Slot < 1 || i.Slot > last {
		return api.ErrArg
	}
	for _, v := range votes {
		if v.From < 0 || v.From > 2*f || v.R.Inst != i || !wire.RightRecord(v.R) {
			return api.ErrArg
		}
	}
	if len(votes) <= f {
		return api.ErrWait
	}
	return api.OK
}

// isFast is what the document says of Fast.
func isFast(f int, i api.Instance, votes []repair.Vote) bool {
	if refused(f, i, votes) != api.OK {
		return false
	}
	missing := f
	for _, v := range votes {
		if v.From == i.Replica {
			return false
		}
		if v.R.Kept && v.R.Ballot.Number == 0 && v.R.Ballot.Replica == 0 {
			missing--
		}
	}
	return missing <= 0
}

// rank tells which case a vote makes apply, and how far ahead its ballot is among those that do.
func rank(r api.Record, fast bool) []int {
	switch {
	case r.Status == 3:
		return []int{4, 0, 0}
	case r.Status == 2:
		return []int{3, r.Ballot.Number, r.Ballot.Replica}
	case fast && r.Kept && r.Ballot == zero:
		return []int{2, 0, 0}
	case r.Status == 1:
		return []int{1, r.Ballot.Number, r.Ballot.Replica}
	}
	return []int{0, 0, 0}
}

// decide is what the document says of Decide: the first vote of the highest rank is what goes on.
func decide(f int, i api.Instance, l []repair.Vote) (api.Record, api.Errno) {
	votes := counted(l)
	if err := refused(f, i, votes); err != api.OK {
		return api.Record{}, err
	}
	result, best, fast := noop(i), []int{0, 0, 0}, isFast(f, i, votes)
	for _, v := range votes {
		at := rank(v.R, fast)
		if slices.Compare(at, best) <= 0 {
			continue
		}
		best = at
		result = api.Record{Inst: i, Status: []int{0, 1, 2, 2, 3}[at[0]], Cmd: v.R.Cmd, Seq: v.R.Seq, Deps: v.R.Deps, Kept: at[0] == 1}
	}
	return result, api.OK
}

func checkDecide(t *testing.T, what string, f int, i api.Instance, l []repair.Vote, want api.Record, wanted api.Errno) {
	t.Helper()
	if r, err := repair.Decide(f, i, l); err != wanted || !wire.SameRecord(r, want) {
		t.Errorf("%s: Decide(%d, %v, %v) = %v, %d, want %v, %d", what, f, i, l, r, err, want, wanted)
	}
}

func checkFast(t *testing.T, what string, f int, i api.Instance, l []repair.Vote, want bool) {
	t.Helper()
	if is := repair.Fast(f, i, l); is != want {
		t.Errorf("%s: Fast(%d, %v, %v) = %v", what, f, i, l, is)
	}
}

// checkModel says where something is decided otherwise than by the model.
func checkModel(t *testing.T, f int, i api.Instance, l []repair.Vote) {
	t.Helper()
	want, err := decide(f, i, l)
	checkDecide(t, "as by the model", f, i, l, want, err)
	checkFast(t, "as by the model", f, i, l, isFast(f, i, counted(l)))
}

// lists calls a function with all lists of so many of some votes.
func lists(some, before []repair.Vote, more int, call func(l []repair.Vote)) {
	if more == 0 {
		call(before)
		return
	}
	for _, v := range some {
		lists(some, append(before[:len(before):len(before)], v), more-1, call)
	}
}
