package repair_test

import (
	"slices"
	"testing"

	"althing/api"
	"althing/repair"
	"althing/wire"
)

// votesWithSpare are votes with others in the spare capacity of all lists, and a function that tells whether all is as it was.
func votesWithSpare(l []repair.Vote) ([]repair.Vote, func() bool) {
	junk := vote(9, state(77, 9, high))
	var long, before, cut []repair.Vote // the votes with all that their lists have space for, a copy of that, and the votes
	for _, v := range slices.Concat(l, []repair.Vote{junk, junk}) {
		reads, writes := len(v.R.Cmd.Reads), len(v.R.Cmd.Writes)
		v.R.Cmd.Reads = slices.Concat(v.R.Cmd.Reads, junk.R.Cmd.Reads)
		v.R.Cmd.Writes = slices.Concat(v.R.Cmd.Writes, junk.R.Cmd.Writes)
		long, before = append(long, v), append(before, deep(v))
		v.R.Cmd.Reads, v.R.Cmd.Writes = v.R.Cmd.Reads[:reads], v.R.Cmd.Writes[:writes]
		cut = append(cut, v)
	}
	whole := slices.Clone(cut)
	isSame := func(a, b repair.Vote) bool { return a.From == b.From && wire.SameRecord(a.R, b.R) }
	return whole[:len(l)], func() bool {
		return slices.EqualFunc(long, before, isSame) && slices.EqualFunc(whole, cut, isSame)
	}
}

func deep(v repair.Vote) repair.Vote {
	v.R.Cmd.Reads, v.R.Cmd.Writes = slices.Clone(v.R.Cmd.Reads), slices.Clone(v.R.Cmd.Writes)
	return v
}

// spoil overwrites the lists of a record, and their spare capacity.
func spoil(r api.Record) {
	reads, writes := r.Cmd.Reads[:cap(r.Cmd.Reads)], r.Cmd.Writes[:cap(r.Cmd.Writes)]
	for k := range reads {
		reads[k] = api.Read{Key: "spoilt"}
	}
	for k := range writes {
		writes[k] = api.Write{Key: "spoilt"}
	}
}

// samples are votes of which each case chooses one, with lists that are empty too, and some that are refused.
func samples() [][]repair.Vote {
	var all [][]repair.Vote
	for _, a := range states(4) {
		for _, b := range states(5) {
			all = append(all, []repair.Vote{vote(0, a), vote(2, b), vote(0, b)}, []repair.Vote{vote(own, a), vote(2, b)})
		}
		all = append(all, []repair.Vote{vote(0, a)},
			[]repair.Vote{vote(0, a), vote(2, with(a, func(r *api.Record) { r.Cmd.Kind = 9 }))},
			[]repair.Vote{vote(0, nothing()), vote(2, with(a, func(r *api.Record) { r.Cmd.Writes = nil }))},
			[]repair.Vote{vote(0, nothing()), vote(2, with(a, func(r *api.Record) { r.Cmd.Reads = nil }))})
	}
	return all
}

func TestP13_1And2ArgumentsStayAsTheyAre(t *testing.T) {
	for _, sample := range samples() {
		l, untouched := votesWithSpare(sample)
		r, _ := repair.Decide(1, here, l)
		spoil(r)
		repair.Fast(1, here, l)
		if !untouched() {
			t.Errorf("of %v something was changed", sample)
		}
	}
}

func TestP13_1ResultsAreNewMemory(t *testing.T) {
	for _, sample := range samples() {
		l, _ := votesWithSpare(sample)
		first, _ := repair.Decide(1, here, l)
		second, err := repair.Decide(1, here, l)
		want, wanted := decide(1, here, sample)
		spoil(first)
		for _, v := range l {
			spoil(v.R)
		}
		if err != wanted || !wire.SameRecord(second, want) {
			t.Errorf("Decide of %v: later %v, %d, want %v, %d", sample, second, err, want, wanted)
		}
	}
}

// Nothing is kept of an earlier call.
func TestP13_1And2NothingIsKept(t *testing.T) {
	for _, sample := range samples() {
		repair.Decide(1, here, []repair.Vote{vote(1, state(9, 3, high)), vote(2, state(9, 3, high))})
		repair.Fast(1, here, unchanged(1))
		checkModel(t, 1, here, sample)
		checkModel(t, 1, here, sample)
	}
}
