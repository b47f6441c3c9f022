package index_test

import (
	"testing"

	"althing/api"
	"althing/command"
	"althing/index"
)

// someRecords are of few instances, so that they follow each other.
func someRecords() []api.Record {
	return []api.Record{
		record(1, inst(0, 1), 1, validate(1, "a", "")), record(5, inst(0, 1), 0, validate(2, "", "a")), record(3, inst(0, 2), 3, validate(3, "b", "b")),
		record(4, inst(1, 1), 2, validate(4, "", "ab")), record(top, inst(1, 1), 1, decide(4, "c", "")), record(6, inst(7, 3), 1, validate(6, "c", "a")),
		record(2, inst(6, last+1), 3, validate(9, "", "")), record(8, inst(2, 4), 3, api.Command{}),
	}
}

// All lists of up to four records of few instances.
func TestP11_3AllViews(t *testing.T) {
	checkViews(t, nil, 4)
}

func checkViews(t *testing.T, l []api.Record, more int) {
	t.Helper()
	checkView(t, l, []api.Instance{inst(0, 1), inst(3, 3)}, []api.Command{validate(9, "a", ""), validate(4, "", "b"), {}})
	if more == 0 {
		return
	}
	for _, r := range someRecords() {
		checkViews(t, append(l[:len(l):len(l)], r), more-1)
	}
}

// The results are never less than the arguments, and asking again with them returns the same.
func TestP11_3AskingAgain(t *testing.T) {
	all := someRecords()
	for from := range all {
		for to := from; to <= len(all); to++ {
			for _, c := range someCommands() {
				for _, s := range starts() {
					checkAgain(t, all[from:to], c, s)
				}
			}
		}
	}
}

func checkAgain(t *testing.T, l []api.Record, c api.Command, s start) {
	t.Helper()
	seq, d := index.Attrs(l, inst(3, 3), c, s.seq, s.deps)
	if seq < s.seq {
		t.Errorf("Attrs of %v, %v = %d, which is less than %d", l, c, seq, s.seq)
	}
	for k := range d {
		if d[k] < s.deps[k] {
			t.Errorf("Attrs of %v, %v = %v, which is less than %v", l, c, d, s.deps)
		}
	}
	again, deps := index.Attrs(l, inst(3, 3), c, seq, d)
	checkAttrs(t, "Attrs, asked again", again, deps, seq, d)
}

// The one that is asked about where the other one is known is ordered after it; where each is known to the other, each is.
func TestP11_3OrderedAfterWhatIsKnown(t *testing.T) {
	for _, a := range someCommands() {
		for _, b := range someCommands() {
			for _, status := range []int{api.PreAccept, api.Accepted, api.Committed} {
				checkAfter(t, asked(nil, inst(0, 3), status, a), b)
			}
		}
	}
}

// asked is the record of a command with what Attrs tells of it.
func asked(l []api.Record, i api.Instance, status int, c api.Command) api.Record {
	r := api.Record{Inst: i, Status: status, Cmd: c}
	r.Seq, r.Deps = index.Attrs(l, i, c, 1, api.Deps{})
	return r
}

func checkAfter(t *testing.T, a api.Record, c api.Command) {
	t.Helper()
	unaware := asked(nil, inst(2, 5), api.PreAccept, c)
	if index.Ordered(a, unaware) == command.Interfere(a.Cmd, c) {
		t.Errorf("Ordered(%v, %v), neither of which knows the other one, = %v", a, unaware, index.Ordered(a, unaware))
	}
	b := asked([]api.Record{a}, inst(2, 5), api.PreAccept, c)
	if !index.Ordered(a, b) || !index.Ordered(b, a) {
		t.Errorf("Ordered(%v, %v) = false", a, b)
	}
	if isAfter := b.Seq > a.Seq && b.Deps == (api.Deps{3}); isAfter != command.Interfere(a.Cmd, c) {
		t.Errorf("%v, asked about where %v is known", b, a)
	}
	each := asked([]api.Record{b}, a.Inst, a.Status, a.Cmd)
	if isAfter := each.Seq > b.Seq && each.Deps == (api.Deps{0, 0, 5}); isAfter != command.Interfere(a.Cmd, c) {
		t.Errorf("%v, asked about where %v is known", each, b)
	}
	if !index.Ordered(each, b) || !index.Ordered(b, each) {
		t.Errorf("Ordered(%v, %v), each of which knows the other one, = false", each, b)
	}
}

// A row of commands of all replicas, each asked about where all before it are known, is ordered two by two.
func TestP11_3ARow(t *testing.T) {
	var l []api.Record
	for k, c := range someCommands() {
		r := asked(l, inst(k%7, index.Slot(l, k%7)), 1+k%3, c)
		if r.Inst.Slot != 1+k/7 {
			t.Errorf("Slot of %d = %d", k%7, r.Inst.Slot)
		}
		for _, before := range l {
			if !index.Ordered(before, r) || !index.Ordered(r, before) {
				t.Errorf("Ordered(%v, %v) = false", before, r)
			}
			if command.Interfere(before.Cmd, r.Cmd) && r.Seq <= before.Seq {
				t.Errorf("%v is not behind %v", r, before)
			}
		}
		l = append(l, r)
	}
}
