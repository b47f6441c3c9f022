package index_test

import (
	"math"
	"slices"
	"strconv"
	"testing"

	"althing/api"
	"althing/index"
)

func TestP11_1Known(t *testing.T) {
	a1, b1, a2, c1, b2, a3 := writer(inst(0, 1), 1, 1), writer(inst(1, 4), 3, 2), writer(inst(0, 1), 2, 3), writer(inst(2, 2), 0, 4), writer(inst(1, 4), 3, 5), writer(inst(0, 1), 3, 6)
	for _, c := range []struct{ l, want []api.Record }{
		{nil, nil},
		{[]api.Record{}, nil},
		{[]api.Record{a1}, []api.Record{a1}},
		{[]api.Record{a1, a1}, []api.Record{a1}},
		{[]api.Record{a1, a2}, []api.Record{a2}},
		{[]api.Record{a2, a1}, []api.Record{a1}},
		{[]api.Record{a1, a2, a3}, []api.Record{a3}},
		{[]api.Record{a1, b1}, []api.Record{a1, b1}},
		{[]api.Record{b1, a1}, []api.Record{b1, a1}},
		{[]api.Record{a1, b1, a2}, []api.Record{b1, a2}},
		{[]api.Record{a1, b1, a2, b2}, []api.Record{a2, b2}},
		{[]api.Record{a1, b1, b2, a2}, []api.Record{b2, a2}},
		{[]api.Record{a1, b1, a2, c1, b2, a3}, []api.Record{c1, b2, a3}},
		{[]api.Record{c1, a1, b1, a2, b2}, []api.Record{c1, a2, b2}},
	} {
		checkRecords(t, "Known", index.Known(c.l), c.want)
		checkRecords(t, "Known of Known", index.Known(index.Known(c.l)), c.want)
	}
}

// What makes two instances is the replica, the slot, or both; nothing else does.
func TestP11_1KnownTellsInstancesApart(t *testing.T) {
	var l []api.Record
	for _, replica := range append(notReplicas(), 0, 1, 6) {
		for _, slot := range []int{math.MinInt, -1, 0, 1, 2, 7, last, last + 1, 1 << 32, 1<<32 + 1, math.MaxInt} {
			l = append(l, writer(inst(replica, slot), 1, len(l)))
		}
	}
	checkRecords(t, "Known of different ones", index.Known(l), l)
	again := slices.Clone(l)
	slices.Reverse(again)
	for k := range again {
		again[k].Seq, again[k].Status, again[k].Cmd, again[k].Deps = 7, 0, api.Command{}, api.Deps{}
	}
	checkRecords(t, "Known of the same ones again", index.Known(slices.Concat(l, again)), again)
}

// A long list, in which each instance comes four times.
func TestP11_1KnownOfALongList(t *testing.T) {
	const size = 7 * 5000
	var l []api.Record
	for k := range 4 * size {
		l = append(l, writer(inst(k%7, k%5000), k%4, k))
	}
	checkRecords(t, "Known of a long list", index.Known(l), l[3*size:])
}

// All fields of a record come back, whatever they are.
func TestP11_1KnownIsTheWholeRecord(t *testing.T) {
	for _, status := range statuses() {
		for _, c := range someCommands() {
			l := []api.Record{record(3, inst(0, 1), status, c), record(math.MinInt, inst(-1, -2), status, c), {}}
			checkRecords(t, "Known", index.Known(l), l)
		}
	}
}

func TestP11_1Against(t *testing.T) {
	l := []api.Record{
		writer(inst(0, 1), 1, 1), writer(inst(1, 4), 3, 2), writer(inst(2, 2), 2, 3), writer(inst(0, 1), 2, 4),
		record(5, inst(0, 2), 1, validate(2, "b", "")), record(6, inst(0, 3), 1, validate(3, "a", "")), record(7, inst(3, 3), 0, validate(4, "a", "a")),
	}
	for _, c := range []struct {
		name string
		at   api.Instance
		c    api.Command
		want []api.Record
	}{
		{"another instance", inst(4, 9), validate(9, "", "a"), []api.Record{l[1], l[2], l[3], l[5]}},
		{"a read of what is read and written", inst(4, 9), validate(9, "a", ""), []api.Record{l[1], l[2], l[3], l[5]}},
		{"a Decide", inst(4, 9), decide(9, "a", "a"), []api.Record{l[1], l[2], l[3], l[5]}},
		{"its own instance", inst(1, 4), validate(9, "", "a"), []api.Record{l[2], l[3], l[5]}},
		{"its own instance, twice known", inst(0, 1), validate(9, "", "a"), []api.Record{l[1], l[2], l[5]}},
		{"its own slot of another replica", inst(4, 4), validate(9, "", "a"), []api.Record{l[1], l[2], l[3], l[5]}},
		{"its own replica", inst(1, 1), validate(9, "", "a"), []api.Record{l[1], l[2], l[3], l[5]}},
		{"another key", inst(4, 9), validate(9, "b", "c"), []api.Record{l[4]}},
		{"no common key", inst(4, 9), validate(9, "c", "d"), nil},
		{"the same name", inst(4, 9), validate(3, "c", "d"), []api.Record{l[5]}},
		{"the Decide of one", inst(4, 9), decide(3, "c", "d"), []api.Record{l[5]}},
		{"the same name as one of None", inst(4, 9), validate(4, "c", "d"), nil},
		{"the same name without keys", inst(4, 9), validate(2, "", ""), []api.Record{l[4]}},
		{"a Noop", inst(4, 9), api.Command{}, nil},
	} {
		checkRecords(t, c.name, index.Against(l, c.at, c.c), c.want)
	}
	checkRecords(t, "an empty view", index.Against(nil, inst(0, 1), validate(1, "a", "a")), nil)
}

// What counts is the last record, also if it is none of the conflicts: an earlier one does not count in its place.
func TestP11_1AgainstOnlyTheLastRecord(t *testing.T) {
	conflict := writer(inst(0, 1), 3, 5)
	for name, later := range map[string]api.Record{
		"None":        writer(inst(0, 1), 0, 5),
		"a Noop":      record(5, inst(0, 1), 3, api.Command{}),
		"another key": record(5, inst(0, 1), 3, validate(1, "", "b")),
	} {
		c := validate(9, "", "a")
		checkRecords(t, name+" later", index.Against([]api.Record{conflict, later}, inst(1, 1), c), nil)
		checkRecords(t, name+" earlier", index.Against([]api.Record{later, conflict}, inst(1, 1), c), []api.Record{conflict})
		seq, d := index.Attrs([]api.Record{conflict, later}, inst(1, 1), c, 1, api.Deps{})
		checkAttrs(t, name+" later", seq, d, 1, api.Deps{})
		seq, d = index.Attrs([]api.Record{later, conflict}, inst(1, 1), c, 1, api.Deps{})
		checkAttrs(t, name+" earlier", seq, d, 6, api.Deps{1})
	}
}

func TestP11_1AgainstByStatus(t *testing.T) {
	for _, status := range statuses() {
		l := []api.Record{writer(inst(0, 1), status, 5)}
		want := l
		if status <= 0 {
			want = nil
		}
		checkRecords(t, "Against of Status "+strconv.Itoa(status), index.Against(l, inst(1, 1), validate(9, "a", "")), want)
	}
}

// Of all pairs of commands, those interfere that the document says.
func TestP11_1AgainstByCommand(t *testing.T) {
	for _, a := range someCommands() {
		for _, b := range someCommands() {
			l := []api.Record{record(1, inst(0, 1), 1, a)}
			checkRecords(t, "Against", index.Against(l, inst(0, 2), b), against(l, inst(0, 2), b))
		}
	}
}

func TestP11_1Attrs(t *testing.T) {
	l := []api.Record{
		writer(inst(0, 1), 1, 9), writer(inst(1, 4), 3, 2), writer(inst(2, 2), 2, 5), writer(inst(0, 1), 2, 4), writer(inst(1, 3), 1, 3),
		record(30, inst(0, 5), 1, validate(2, "b", "")), record(31, inst(3, 5), 0, validate(3, "a", "a")),
	}
	c := validate(9, "a", "")
	for _, s := range []struct {
		name     string
		at       api.Instance
		c        api.Command
		seq      int
		d        api.Deps
		wantSeq  int
		wantDeps api.Deps
	}{
		{"from nothing", inst(6, 1), c, 1, api.Deps{}, 6, api.Deps{1, 4, 2}},
		{"a lesser seq", inst(6, 1), c, 5, api.Deps{}, 6, api.Deps{1, 4, 2}},
		{"the same seq", inst(6, 1), c, 6, api.Deps{}, 6, api.Deps{1, 4, 2}},
		{"a greater seq", inst(6, 1), c, 7, api.Deps{}, 7, api.Deps{1, 4, 2}},
		{"greater and lesser slots", inst(6, 1), c, 1, api.Deps{3, 3, 2, 7, 0, 0, 8}, 6, api.Deps{3, 4, 2, 7, 0, 0, 8}},
		{"its own instance", inst(2, 2), c, 1, api.Deps{}, 5, api.Deps{1, 4}},
		{"its own instance is not taken away", inst(2, 2), c, 1, api.Deps{0, 0, 2}, 5, api.Deps{1, 4, 2}},
		{"another key", inst(6, 1), validate(9, "b", ""), 1, api.Deps{1}, 31, api.Deps{5}},
		{"no common key", inst(6, 1), validate(9, "c", ""), 1, api.Deps{1}, 1, api.Deps{1}},
		{"a Noop", inst(6, 1), api.Command{}, 3, api.Deps{0, 2}, 3, api.Deps{0, 2}},
	} {
		seq, d := index.Attrs(l, s.at, s.c, s.seq, s.d)
		checkAttrs(t, s.name, seq, d, s.wantSeq, s.wantDeps)
	}
}

// No Seq of a valid record is above 2^40; those at and above it have none behind it.
func TestP11_1AttrsAtTheEnd(t *testing.T) {
	for _, c := range []struct{ known, seq, want int }{
		{top - 2, 1, top - 1}, {top - 1, 1, top}, {top, 1, top}, {top + 1, 1, top}, {top + 2, 1, top}, {math.MaxInt - 1, 1, top}, {math.MaxInt, 1, top},
		{top - 2, top - 1, top - 1}, {top - 2, top, top}, {top - 1, top, top}, {top, top - 1, top}, {top, top, top}, {math.MaxInt, top, top},
		{top, top + 1, top + 1}, {math.MaxInt, top + 7, top + 7}, {math.MaxInt, math.MaxInt, math.MaxInt}, {1, math.MaxInt, math.MaxInt},
		{0, 0, 1}, {0, 1, 1}, {-1, 0, 0}, {-1, -1, 0}, {-7, -9, -6}, {math.MinInt, math.MinInt, math.MinInt + 1}, {math.MinInt, math.MinInt + 1, math.MinInt + 1},
		{-1 << 32, -1 << 33, -1<<32 + 1}, {1 << 32, 1, 1<<32 + 1}, {1<<31 - 1, 1, 1 << 31},
	} {
		seq, d := index.Attrs([]api.Record{writer(inst(0, 1), 1, c.known)}, inst(1, 1), validate(9, "a", ""), c.seq, api.Deps{})
		checkAttrs(t, "Attrs of "+strconv.Itoa(c.known)+" and "+strconv.Itoa(c.seq), seq, d, c.want, api.Deps{1})
	}
}

// Deps have no place for what is no replica; the Seq of such a conflict counts.
func TestP11_1AttrsOfNoReplica(t *testing.T) {
	before := api.Deps{1, 2, 3, 4, 5, 6, 7}
	for _, k := range notReplicas() {
		seq, d := index.Attrs([]api.Record{writer(inst(k, 9), 1, 4)}, inst(1, 1), validate(9, "a", ""), 1, before)
		checkAttrs(t, "Attrs of replica "+strconv.Itoa(k), seq, d, 5, before)
	}
	for k := range 7 {
		want := before
		want[k] = 9
		seq, d := index.Attrs([]api.Record{writer(inst(k, 9), 1, 4)}, inst(1, 1), validate(9, "a", ""), 1, before)
		checkAttrs(t, "Attrs of replica "+strconv.Itoa(k), seq, d, 5, want)
	}
}

// Any slot is added as it stands, if it is greater.
func TestP11_1AttrsOfAnySlot(t *testing.T) {
	slots := []int{math.MinInt, -1 << 32, -1, 0, 1, 2, last, last + 1, 1 << 32, math.MaxInt}
	for _, known := range slots {
		for _, before := range slots {
			seq, d := index.Attrs([]api.Record{writer(inst(2, known), 1, 4)}, inst(1, 1), validate(9, "a", ""), 1, api.Deps{0, 0, before})
			checkAttrs(t, "Attrs of slot "+strconv.Itoa(known)+" and "+strconv.Itoa(before), seq, d, 5, api.Deps{0, 0, max(known, before)})
		}
	}
}

func TestP11_2Slot(t *testing.T) {
	l := []api.Record{
		writer(inst(0, 3), 1, 1), writer(inst(1, 4), 3, 2), writer(inst(0, 5), 0, 3), writer(inst(0, 1), 2, 4), writer(inst(2, 0), 1, 5), writer(inst(3, -4), 1, 5),
		writer(inst(4, last-1), 1, 6), writer(inst(5, last), 1, 6), writer(inst(6, last+1), 1, 6), writer(inst(-1, 8), 1, 6), writer(inst(7, 9), 1, 6),
	}
	for k, want := range []int{6, 5, 1, 1, last, last + 1, last + 1, 10, 1} {
		if got := index.Slot(l, k); got != want {
			t.Errorf("Slot of %d = %d, want %d", k, got, want)
		}
	}
	if got := index.Slot(l, -1); got != 9 {
		t.Errorf("Slot of -1 = %d, want 9", got)
	}
	for _, k := range append(notReplicas(), 0, 1, 6) {
		if got := index.Slot(nil, k); got != 1 {
			t.Errorf("Slot of an empty view, %d, = %d", k, got)
		}
	}
}

// A slot is taken by any record: also of None, of a Noop, and by one that a later one follows.
func TestP11_2SlotOfAnyRecord(t *testing.T) {
	for _, status := range statuses() {
		for _, c := range someCommands() {
			l := []api.Record{record(1, inst(2, 7), status, c), record(2, inst(2, 3), 1, c), record(2, inst(2, 3), status, c)}
			if got := index.Slot(l, 2); got != 8 {
				t.Errorf("Slot with Status %d and %v = %d", status, c, got)
			}
		}
	}
}

func TestP11_2SlotAtTheEnds(t *testing.T) {
	for _, c := range []struct{ slot, want int }{
		{math.MinInt, 1}, {-last, 1}, {-1, 1}, {0, 1}, {1, 2}, {2, 3}, {last - 2, last - 1}, {last - 1, last}, {last, last + 1},
		{last + 1, last + 1}, {last + 2, last + 1}, {1 << 32, last + 1}, {1<<32 + 1, last + 1}, {math.MaxInt - 1, last + 1}, {math.MaxInt, last + 1},
	} {
		for _, replica := range append(notReplicas(), 0, 6) {
			if got := index.Slot([]api.Record{writer(inst(replica, c.slot), 1, 1)}, replica); got != c.want {
				t.Errorf("Slot of %d behind %d = %d, want %d", replica, c.slot, got, c.want)
			}
		}
	}
}

func TestP11_2Ordered(t *testing.T) {
	none, before := api.Deps{}, api.Deps{0, 0, 4}
	for _, c := range []struct {
		name string
		a, b api.Deps
		want bool
	}{
		{"neither", none, none, false},
		{"a waits for b", api.Deps{0, 0, 0, 0, 2}, none, true},
		{"a waits for b and more", api.Deps{0, 0, 0, 0, 9}, none, true},
		{"a waits for less than b", api.Deps{0, 0, 0, 0, 1}, none, false},
		{"a waits for another replica", api.Deps{9, 9, 9, 9, 0, 9, 9}, none, false},
		{"b waits for a", none, before, true},
		{"b waits for less than a", none, api.Deps{0, 0, 3}, false},
		{"b waits for b", none, api.Deps{0, 0, 0, 0, 9}, false},
		{"a waits for a", api.Deps{0, 0, 9}, none, false},
		{"both", api.Deps{0, 0, 0, 0, 2}, before, true},
	} {
		a, b := writer(inst(2, 4), 1, 1), writer(inst(4, 2), 1, 1)
		a.Deps, b.Deps = c.a, c.b
		if index.Ordered(a, b) != c.want || index.Ordered(b, a) != c.want {
			t.Errorf("%s: Ordered = %v, the other way %v", c.name, index.Ordered(a, b), index.Ordered(b, a))
		}
		b.Cmd = validate(9, "", "b")
		if !index.Ordered(a, b) || !index.Ordered(b, a) {
			t.Errorf("%s, without a common key: Ordered = false", c.name)
		}
	}
}

// Nothing but the commands, the instances and the Deps counts.
func TestP11_2OrderedByCommand(t *testing.T) {
	for _, a := range someCommands() {
		for _, b := range someCommands() {
			for _, status := range statuses() {
				x, y := record(0, inst(0, 9), status, a), record(7, inst(6, 9), 3, b)
				if got, want := index.Ordered(x, y), !interfere(a, b); got != want {
					t.Errorf("Ordered(%v, %v) = %v", x, y, got)
				}
				y.Deps[0] = 9
				if !index.Ordered(x, y) || !index.Ordered(y, x) {
					t.Errorf("Ordered(%v, %v) = false", x, y)
				}
			}
		}
	}
}

// Deps contain no instance of what is no replica, and none whose slot is below 1.
func TestP11_2OrderedOfNoInstance(t *testing.T) {
	all := api.Deps{last, last, last, last, last, last, math.MaxInt}
	a := writer(inst(0, 1), 1, 1)
	a.Deps = all
	for _, k := range notReplicas() {
		b := writer(inst(k, 1), 1, 1)
		b.Deps = api.Deps{}
		if index.Ordered(a, b) || index.Ordered(b, a) {
			t.Errorf("Ordered with replica %d = true", k)
		}
	}
	for _, slot := range []int{math.MinInt, -1, 0} {
		b := writer(inst(6, slot), 1, 1)
		b.Deps = api.Deps{}
		if index.Ordered(a, b) || index.Ordered(b, a) {
			t.Errorf("Ordered with slot %d = true", slot)
		}
	}
	if b := writer(inst(6, math.MaxInt), 1, 1); !index.Ordered(a, b) {
		t.Error("Ordered with the greatest slot = false")
	}
}

// A record interferes with itself, as it is not a Noop, and waits for itself only if its Deps say so.
func TestP11_2OrderedWithItself(t *testing.T) {
	a := writer(inst(0, 2), 1, 1)
	if index.Ordered(a, a) {
		t.Error("Ordered with itself = true")
	}
	a.Deps[0] = 2
	if !index.Ordered(a, a) {
		t.Error("Ordered with itself = false")
	}
	if noop := record(1, inst(0, 2), 1, api.Command{}); !index.Ordered(noop, noop) {
		t.Error("Ordered of Noops = false")
	}
}

func TestExampleOfTheDocument(t *testing.T) {
	l := []api.Record{record(5, inst(0, 3), api.PreAccept, validate(1, "a", ""))}
	seq, d := index.Attrs(l, inst(1, 1), validate(2, "", "a"), 1, api.Deps{})
	checkAttrs(t, "the example", seq, d, 6, api.Deps{3})
}
