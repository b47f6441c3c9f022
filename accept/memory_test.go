package accept_test

import (
	"slices"
	"testing"

	"althing/accept"
	"althing/api"
	"althing/wire"
)

// junk is what no record has.
func junk() api.Record {
	r := record(77, api.Instance{Replica: 9, Slot: 9}, 9, high, high)
	r.Cmd = validate(99, "x")
	return r
}

// commandWithSpare is a command with junk in the spare capacity of its lists, and a function that tells whether the lists and that are as they were.
func commandWithSpare(c api.Command) (api.Command, func() bool) {
	r, w := slices.Concat(c.Reads, junk().Cmd.Reads, junk().Cmd.Reads), slices.Concat(c.Writes, junk().Cmd.Writes)
	reads, writes := slices.Clone(r), slices.Clone(w)
	c.Reads, c.Writes = r[:len(r)-2], w[:len(w)-1]
	return c, func() bool { return slices.Equal(r, reads) && slices.Equal(w, writes) }
}

// viewWithSpare is a view with junk in the spare capacity of all lists, and a function that tells whether all is as it was.
func viewWithSpare(l []api.Record) ([]api.Record, func() bool) {
	var whole, before []api.Record
	var untouched []func() bool
	for _, r := range append(slices.Clone(l), junk(), junk()) {
		before = append(before, deep(r))
		c, is := commandWithSpare(r.Cmd)
		whole, untouched = append(whole, of(r, c)), append(untouched, is)
	}
	return whole[:len(l)], func() bool {
		isSame := slices.EqualFunc(whole, before, wire.SameRecord)
		for _, is := range untouched {
			isSame = isSame && is()
		}
		return isSame
	}
}

func messageWithSpare(m api.Message) (api.Message, func() bool) {
	c, untouched := commandWithSpare(m.R.Cmd)
	m.R.Cmd = c
	return m, untouched
}

func deep(r api.Record) api.Record {
	r.Cmd.Reads, r.Cmd.Writes = slices.Clone(r.Cmd.Reads), slices.Clone(r.Cmd.Writes)
	return r
}

// spoil overwrites the lists of a command, and their spare capacity.
func spoil(c api.Command) {
	for k := range c.Reads[:cap(c.Reads)] {
		c.Reads[:cap(c.Reads)][k] = junk().Cmd.Reads[0]
	}
	for k := range c.Writes[:cap(c.Writes)] {
		c.Writes[:cap(c.Writes)][k] = junk().Cmd.Writes[0]
	}
}

// calls are those whose results have lists: of each, the records of its result.
func calls() map[string]func(l []api.Record, m api.Message) []api.Record {
	return map[string]func(l []api.Record, m api.Message) []api.Record{
		"Know": func(l []api.Record, m api.Message) []api.Record { return []api.Record{accept.Know(l, m.R.Inst)} },
		"Begin": func(l []api.Record, m api.Message) []api.Record {
			r, _ := accept.Begin(l, self, m.R.Cmd)
			return []api.Record{r}
		},
		"Handle": func(l []api.Record, m api.Message) []api.Record {
			s, _ := accept.Handle(l, self, m)
			return []api.Record{s.R, s.Reply.R}
		},
	}
}

// empty is a command without reads or without writes, whose lists have spare capacity all the same.
func empty(c api.Command, hasReads bool) api.Command {
	if hasReads {
		c.Writes = c.Writes[:0]
	} else {
		c.Reads = c.Reads[:0]
	}
	return c
}

// asked are requests, and also what is none; some have a list that is empty.
func asked() []api.Message {
	l := append(requests(here), requests(there)...)
	for _, m := range []api.Message{preAccept(mid, 5), put(mid, 5), commit(mid, 5)} {
		for _, hasReads := range []bool{false, true} {
			l = append(l, with(m, func(m *api.Message) { m.R.Cmd = empty(m.R.Cmd, hasReads) }))
		}
		l = append(l, with(m, func(m *api.Message) { m.To = 6 }), with(m, func(m *api.Message) { m.R.Cmd.Kind = 9 }))
	}
	return l
}

// someViews are those of one surrounding, and ones with lists that are empty.
func someViews() [][]api.Record {
	all := [][]api.Record{nil, surroundings()[2]}
	for _, r := range states(here) {
		all = append(all, append(slices.Clone(surroundings()[2]), r))
	}
	k := record(3, here, api.Committed, mid, mid)
	return append(all, []api.Record{of(k, empty(k.Cmd, false))}, []api.Record{of(k, empty(k.Cmd, true))})
}

func TestP12_1And2ArgumentsStayAsTheyAre(t *testing.T) {
	for name, call := range calls() {
		for _, sample := range someViews() {
			for _, m := range asked() {
				l, untouched := viewWithSpare(sample)
				arg, untouchedToo := messageWithSpare(m)
				for _, r := range call(l, arg) {
					spoil(r.Cmd)
				}
				if !untouched() || !untouchedToo() {
					t.Errorf("%s: of %v and %v something was changed", name, sample, m)
				}
			}
		}
	}
}

func TestP12_1And2ResultsAreNewMemory(t *testing.T) {
	for name, call := range calls() {
		for _, sample := range someViews() {
			for _, m := range asked() {
				l, _ := viewWithSpare(sample)
				arg, _ := messageWithSpare(m)
				first, second := call(l, arg), call(l, arg)
				var want []api.Record
				for _, r := range second {
					want = append(want, deep(r))
				}
				for _, r := range slices.Concat(first, l, []api.Record{arg.R}) {
					spoil(r.Cmd)
				}
				if !slices.EqualFunc(second, want, wire.SameRecord) {
					t.Errorf("%s of %v and %v: %v, and later %v", name, sample, m, want, second)
				}
			}
		}
	}
}

// What a call returned is an argument like any other: nothing is kept of an earlier call.
func TestP12_1And2NothingIsKept(t *testing.T) {
	for _, sample := range someViews() {
		for _, m := range asked() {
			first, err := accept.Handle(sample, self, m)
			accept.Handle(nil, self, prepare(high))
			accept.Begin(sample, self, m.R.Cmd)
			second, again := accept.Handle(sample, self, m)
			checkStep(t, "asked again", second, again, first, err)
		}
	}
}
