package index_test

import (
	"slices"
	"strconv"
	"testing"

	"althing/api"
	"althing/index"
)

// junk is what no record has.
func junk() api.Record {
	return record(-77, inst(9, 9), 9, validate(-9, "x", "y"))
}

// commandWithSpare is a command with junk in the spare capacity of its lists, and a function that tells whether the lists and that are as they were.
func commandWithSpare(c api.Command) (api.Command, func() bool) {
	r, w := slices.Concat(c.Reads, junk().Cmd.Reads, junk().Cmd.Reads), slices.Concat(c.Writes, junk().Cmd.Writes)
	reads, writes := slices.Clone(r), slices.Clone(w)
	c.Reads, c.Writes = r[:len(r)-2], w[:len(w)-1]
	return c, func() bool { return slices.Equal(r, reads) && slices.Equal(w, writes) }
}

// withSpare is a list of records with junk in the spare capacity of all lists, and a function that tells whether all is as it was.
func withSpare(l []api.Record) ([]api.Record, func() bool) {
	var whole, before []api.Record
	var untouched []func() bool
	for _, r := range append(slices.Clone(l), junk(), junk()) {
		before = append(before, deep(r))
		c, is := commandWithSpare(r.Cmd)
		r.Cmd = c
		whole, untouched = append(whole, r), append(untouched, is)
	}
	return whole[:len(l)], func() bool {
		isSame := same(whole, before)
		for _, is := range untouched {
			isSame = isSame && is()
		}
		return isSame
	}
}

func deep(r api.Record) api.Record {
	r.Cmd.Reads, r.Cmd.Writes = slices.Clone(r.Cmd.Reads), slices.Clone(r.Cmd.Writes)
	return r
}

func deepAll(l []api.Record) []api.Record {
	var all []api.Record
	for _, r := range l {
		all = append(all, deep(r))
	}
	return all
}

// spoil overwrites a list of records, their lists, and the spare capacity of all of these.
func spoil(l []api.Record) {
	whole := l[:cap(l)]
	for k := range whole {
		spoilCommand(whole[k].Cmd)
		whole[k] = junk()
	}
}

func spoilCommand(c api.Command) {
	for k := range c.Reads[:cap(c.Reads)] {
		c.Reads[:cap(c.Reads)][k] = junk().Cmd.Reads[0]
	}
	for k := range c.Writes[:cap(c.Writes)] {
		c.Writes[:cap(c.Writes)][k] = junk().Cmd.Writes[0]
	}
}

// samples are views in which all, some, or none are conflicts, or are the last ones.
func samples() [][]api.Record {
	all := someRecords()
	twice := writer(inst(0, 1), 1, 1)
	return [][]api.Record{
		nil, {}, all, all[:1], all[5:], {twice}, {twice, twice}, {twice, writer(inst(0, 2), 1, 2)}, slices.Concat(all, all),
		{record(1, inst(0, 1), 1, validate(1, "a", "")), record(1, inst(0, 2), 1, validate(1, "", "a"))},
	}
}

func sampleCommands() []api.Command {
	return []api.Command{validate(9, "a", "b"), validate(9, "ba", "ca"), decide(4, "c", ""), {}}
}

// lists are the calls that return lists.
func lists() map[string]func(l []api.Record, c api.Command) []api.Record {
	return map[string]func(l []api.Record, c api.Command) []api.Record{
		"Known":   func(l []api.Record, c api.Command) []api.Record { return index.Known(l) },
		"Against": func(l []api.Record, c api.Command) []api.Record { return index.Against(l, inst(3, 3), c) },
	}
}

func TestP11_1And2ArgumentsStayAsTheyAre(t *testing.T) {
	for _, sample := range samples() {
		for _, c := range sampleCommands() {
			l, untouched := withSpare(sample)
			arg, untouchedToo := commandWithSpare(c)
			index.Attrs(l, inst(3, 3), arg, 1, api.Deps{})
			index.Slot(l, 0)
			for _, r := range l {
				index.Ordered(r, l[0])
				index.Ordered(l[0], r)
			}
			for _, call := range lists() {
				spoil(call(l, arg))
			}
			if !untouched() || !untouchedToo() {
				t.Errorf("of %v and %v something was changed", sample, c)
			}
		}
	}
}

func TestP11_1ResultsAreNewMemory(t *testing.T) {
	for name, call := range lists() {
		for _, sample := range samples() {
			for _, c := range sampleCommands() {
				l, _ := withSpare(sample)
				first, second := call(l, c), call(l, c)
				want := deepAll(second)
				spoil(first)
				checkRecords(t, name+" after another result was changed", second, want)
				spoil(l)
				checkRecords(t, name+" after its argument was changed", second, want)
			}
		}
	}
}

// The records of a view may have lists in common; those of a result do not.
func TestP11_1RecordsOfAResultAreApart(t *testing.T) {
	for name, call := range lists() {
		r := writer(inst(0, 1), 1, 1)
		r.Cmd = validate(1, "ab", "cd")
		var l []api.Record
		for k := range 4 {
			r.Inst.Slot = k + 1
			l = append(l, r)
		}
		got := call(l, validate(9, "a", ""))
		want := deepAll(got)
		for k := range got {
			spoilCommand(got[k].Cmd)
			if !same(got[k+1:], want[k+1:]) || len(got) != 4 {
				t.Errorf("%s: records share memory: %v", name, got)
			}
		}
	}
}

// What is appended to lists of a result goes nowhere where other lists are.
func TestP11_1AppendedToAResult(t *testing.T) {
	for name, call := range lists() {
		l, untouched := withSpare(samples()[2])
		first, second := call(l, validate(9, "a", "")), call(l, validate(9, "a", ""))
		want := deepAll(second)
		for k := range first {
			c := &first[k].Cmd
			c.Reads, c.Writes = append(c.Reads, api.Read{Key: strconv.Itoa(k)}), append(c.Writes, api.Write{Key: strconv.Itoa(k)})
		}
		first = append(first, junk())
		for k := range want {
			c, before := first[k].Cmd, want[k].Cmd
			if !slices.Equal(c.Reads, append(before.Reads, api.Read{Key: strconv.Itoa(k)})) || !slices.Equal(c.Writes, append(before.Writes, api.Write{Key: strconv.Itoa(k)})) {
				t.Errorf("%s: lists of a result share memory: %v", name, c)
			}
		}
		checkRecords(t, name+" after another result was appended to", second, want)
		if !untouched() {
			t.Errorf("%s: its argument was changed", name)
		}
	}
}

// What a call returned is an argument like any other.
func TestP11_1ResultsAsArguments(t *testing.T) {
	for _, sample := range samples() {
		c := validate(9, "a", "")
		l := index.Known(sample)
		checkRecords(t, "Against of Known", index.Against(l, inst(3, 3), c), against(sample, inst(3, 3), c))
		some := index.Against(l, inst(3, 3), c)
		checkRecords(t, "Against of Against", index.Against(some, inst(3, 3), c), some)
		seq, d := index.Attrs(some, inst(3, 3), c, 1, api.Deps{})
		wantSeq, wantDeps := attrs(sample, inst(3, 3), c, 1, api.Deps{})
		checkAttrs(t, "Attrs of Against", seq, d, wantSeq, wantDeps)
	}
}
