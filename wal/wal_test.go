package wal_test

import (
	"bytes"
	"math"
	"slices"
	"strconv"
	"testing"

	"althing/api"
	"althing/disk"
	"althing/wal"
)

func TestP9_1AppendOfNone(t *testing.T) {
	for _, none := range [][]api.Record{nil, {}, validRecords()[:0]} {
		for _, size := range []int{0, 100} {
			l := opened(t, disk.New(size))
			checkErr(t, "Append of none", l.Append(none...), api.OK)
			check(t, "Append of none", l, model{size: size})
		}
		l, m := log3(t)
		checkErr(t, "Append of none", l.Append(none...), api.OK)
		check(t, "Append of none", l, m)
	}
}

func TestP9_1AppendOfOne(t *testing.T) {
	for _, r := range validRecords() {
		l, m := opened(t, disk.New(1000)), model{size: 1000}
		checkErr(t, "Append", l.Append(r), m.append(r))
		check(t, "Append", l, m)
		if got := l.Disk().Bytes(); !bytes.Equal(got, frameOf(r)) {
			t.Errorf("Append of %v: the disk has %v", r, got)
		}
	}
}

// Records one by one, and all at once, give the same bytes.
func TestP9_1AppendOfSeveral(t *testing.T) {
	all := validRecords()
	one, m := opened(t, disk.New(3000)), model{size: 3000}
	for _, r := range all {
		checkErr(t, "Append of one more", one.Append(r), m.append(r))
		check(t, "Append of one more", one, m)
	}
	once := opened(t, disk.New(3000))
	checkErr(t, "Append of all", once.Append(all...), api.OK)
	check(t, "Append of all", once, m)
	slices.Reverse(all)
	checkErr(t, "Append of all once more, turned round", once.Append(all...), m.append(all...))
	check(t, "Append of all once more, turned round", once, m)
}

func TestP9_1AppendOfTheSameInstance(t *testing.T) {
	a, b, c := noop(1, 2, 9), busy(1, 2, 3), blank(1, 2)
	for _, l := range [][]api.Record{{a, b, c}, {c, b, a}, {b, a, c}, {a, a}, {a, b, a}, {a, noop(2, 1, 1), b}} {
		log, m := opened(t, disk.New(700)), model{size: 700}
		checkErr(t, "Append", log.Append(l...), m.append(l...))
		check(t, "Append of the same instance", log, m)
		for _, r := range l {
			checkErr(t, "Append", log.Append(r), m.append(r))
			check(t, "Append of the same instance once more", log, m)
		}
	}
}

// Whatever else is appended with it, and whether it fits or not, a record that is not valid is refused with all of them.
func TestP9_1AppendOfAnInvalidOne(t *testing.T) {
	for k, wrong := range wrongRecords() {
		what := "Append with invalid record " + strconv.Itoa(k)
		for n := range 4 {
			some := slices.Insert([]api.Record{noop(0, 1, 1), busy(1, 2, 2), noop(1, 2, 3)}, n, wrong)
			for _, with := range [][]api.Record{some, some[:n+1], some[n:], slices.Concat(some, some), {wrong}} {
				l, m := log3(t)
				checkErr(t, what, l.Append(with...), api.ErrArg)
				check(t, what, l, m)
				checkErr(t, what+", and one behind it", l.Append(noop(3, 3, 3)), m.append(noop(3, 3, 3)))
				check(t, what+", and one behind it", l, m)
			}
			full := opened(t, made(len(frameOf(noop(1, 2, 5))), nil, frameOf(noop(1, 2, 5))))
			checkErr(t, what+" to a full disk", full.Append(some...), api.ErrArg)
			check(t, what+" to a full disk", full, model{len(frameOf(noop(1, 2, 5))), []api.Record{noop(1, 2, 5)}, 0})
		}
	}
}

func TestP9_1AppendOfWhatFitsJustSo(t *testing.T) {
	first := []api.Record{noop(1, 2, 5), busy(0, 300, 6)}
	for _, more := range [][]api.Record{{noop(1, 2, 7)}, {noop(2, 1, 1), noop(2, 2, 2)}, {busy(2, 2, 2), noop(1, 2, 2), busy(2, 1, 3)}, validRecords()} {
		for n := range len(first) + 1 {
			size := len(framesOf(first[:n])) + len(framesOf(more))
			l, m := opened(t, disk.New(size)), model{size: size}
			l.Append(first[:n]...)
			m.append(first[:n]...)
			l.Sync()
			m.sync()
			checkErr(t, "Append of what fits just so", l.Append(more...), api.OK)
			checkErr(t, "the model", m.append(more...), api.OK)
			check(t, "Append of what fits just so", l, m)
			checkErr(t, "Append to a full disk", l.Append(noop(5, 5, 5)), api.ErrFull)
			checkErr(t, "Append of none to a full disk", l.Append(), api.OK)
			check(t, "a full disk", l, m)
		}
	}
}

// The first ones of several would fit: none of them is appended.
func TestP9_1AppendOfOneByteMore(t *testing.T) {
	first := []api.Record{noop(1, 2, 5), busy(0, 300, 6)}
	for _, more := range [][]api.Record{{noop(1, 2, 7)}, {noop(2, 1, 1), noop(2, 2, 2)}, {busy(2, 2, 2), noop(1, 2, 2), busy(2, 1, 3)}, validRecords()} {
		for n := range len(first) + 1 {
			for safe := range n + 1 {
				size := len(framesOf(first[:n])) + len(framesOf(more)) - 1
				d := made(size, framesOf(first[:safe]), framesOf(first[safe:n]))
				l, m := opened(t, d), model{size, first[:n], len(framesOf(first[:safe]))}
				checkErr(t, "Append of one byte more", l.Append(more...), api.ErrFull)
				check(t, "Append of one byte more", l, m)
				fits := more[:len(more)-1]
				checkErr(t, "Append of all but one", l.Append(fits...), m.append(fits...))
				check(t, "Append of all but one", l, m)
			}
		}
	}
}

func TestP9_1AppendOfMuchTooMuch(t *testing.T) {
	for _, n := range []int{2, 100, 40000} {
		l, m := opened(t, disk.New(60)), model{size: 60}
		l.Append(noop(1, 1, 1))
		m.append(noop(1, 1, 1))
		checkErr(t, "Append of much too much", l.Append(slices.Repeat([]api.Record{noop(1, 1, 2)}, n)...), api.ErrFull)
		check(t, "Append of much too much", l, m)
		checkErr(t, "Append to a disk for nothing", opened(t, disk.New(0)).Append(noop(1, 1, 1)), api.ErrFull)
	}
}

// The greatest disk takes as many records as have frames that fit, most of them at once and some one by one.
func TestP9_1AppendToTheGreatestDisk(t *testing.T) {
	var all []api.Record
	for total, k := 0, 1; ; k++ {
		r := with(busy(k%7, k, k), func(r *api.Record) { r.Cmd = bigCommand() })
		if total += len(frameOf(r)); total > most {
			break
		}
		all = append(all, r)
	}
	n := len(all) - 20
	l := opened(t, disk.New(most))
	checkErr(t, "Append of most records", l.Append(all[:n]...), api.OK)
	l.Sync()
	for _, r := range all[n:] {
		checkErr(t, "Append of one more", l.Append(r), api.OK)
	}
	checkErr(t, "Append to the greatest disk", l.Append(noop(0, 1, 1), noop(0, 1, 2), noop(0, 1, 3), all[0]), api.ErrFull)
	for what, log := range map[string]*wal.Log{"the log": l, "the log of a copy": opened(t, l.Disk().Copy())} {
		checkRecords(t, what+" of the greatest disk: All", log.All(), all)
		checkRecords(t, what+" of the greatest disk: Firm", log.Firm(), all[:n])
		if !bytes.Equal(log.Disk().Bytes(), framesOf(all)) || len(log.Insts()) != len(all) {
			t.Errorf("%s of the greatest disk has other bytes or instances", what)
		}
	}
	checkErr(t, "Compact of the greatest disk", l.Compact(), api.OK)
	if got := l.Firm(); len(got) != len(all) {
		t.Errorf("behind Compact, the greatest disk has %d records, want %d", len(got), len(all))
	}
}

func TestP9_1Sync(t *testing.T) {
	l, m := log3(t)
	l.Sync()
	m.sync()
	check(t, "Sync", l, m)
	l.Sync()
	check(t, "Sync twice", l, m)
	l.Append(noop(4, 4, 4))
	m.append(noop(4, 4, 4))
	check(t, "Append behind Sync", l, m)
	l.Sync()
	m.sync()
	check(t, "Sync behind Append", l, m)
}

func TestP9_1SyncOfALogWithoutRecords(t *testing.T) {
	for _, size := range []int{0, 1, 100, most} {
		l := opened(t, disk.New(size))
		l.Sync()
		check(t, "Sync of no records", l, model{size: size})
		l.Sync()
		check(t, "Sync of no records, twice", l, model{size: size})
	}
}

func TestP9_1SyncedBehindEachCall(t *testing.T) {
	a := noop(1, 1, 1)
	for _, isSafe := range []bool{false, true} {
		for name, c := range map[string]struct {
			do   func(l *wal.Log)
			want bool
		}{
			"no call":                {func(l *wal.Log) {}, isSafe},
			"Append":                 {func(l *wal.Log) { l.Append(a) }, false},
			"Append of none":         {func(l *wal.Log) { l.Append() }, isSafe},
			"Append of a wrong one":  {func(l *wal.Log) { l.Append(a, api.Record{}) }, isSafe},
			"Append of too many":     {func(l *wal.Log) { l.Append(slices.Repeat([]api.Record{a}, 100)...) }, isSafe},
			"Sync":                   {func(l *wal.Log) { l.Sync() }, true},
			"Sync and Append":        {func(l *wal.Log) { l.Sync(); l.Append(a) }, false},
			"Get":                    {func(l *wal.Log) { l.Get(a.Inst) }, isSafe},
			"All":                    {func(l *wal.Log) { l.All() }, isSafe},
			"Firm":                   {func(l *wal.Log) { l.Firm() }, isSafe},
			"Insts":                  {func(l *wal.Log) { l.Insts() }, isSafe},
			"Compact":                {func(l *wal.Log) { l.Compact() }, true},
			"Compact and Append":     {func(l *wal.Log) { l.Compact(); l.Append(a) }, false},
			"Disk":                   {func(l *wal.Log) { l.Disk() }, isSafe},
			"Synced":                 {func(l *wal.Log) { l.Synced() }, isSafe},
			"Sync of the disk":       {func(l *wal.Log) { l.Disk().Sync() }, true},
			"a crash of the disk":    {func(l *wal.Log) { l.Disk().Crash(9, 0, 0) }, true},
			"Open":                   {func(l *wal.Log) { wal.Open(l.Disk()) }, isSafe},
			"Append twice":           {func(l *wal.Log) { l.Append(a); l.Append(a) }, false},
			"Append, Sync and Sync":  {func(l *wal.Log) { l.Append(a); l.Sync(); l.Sync() }, true},
			"Append, Sync and Get":   {func(l *wal.Log) { l.Append(a); l.Sync(); l.Get(a.Inst) }, true},
			"Append, Sync and a cut": {func(l *wal.Log) { l.Append(a); l.Sync(); l.Disk().Cut(0) }, true},
		} {
			l, _ := log3(t)
			if isSafe {
				l.Sync()
			}
			c.do(l)
			if got := l.Synced(); got != c.want {
				t.Errorf("Synced behind %s = %v (before it: %v)", name, got, isSafe)
			}
		}
	}
}

func TestP9_2GetOfNone(t *testing.T) {
	l := opened(t, disk.New(100))
	for _, i := range absent() {
		if r, is := l.Get(i); is || !same(r, api.Record{}) {
			t.Errorf("Get(%v) of a log without records = %v, %v", i, r, is)
		}
	}
	l.Append(noop(1, 4, 1), noop(0, 2, 2))
	for _, i := range append(absent(), inst(4, 1), inst(0, 4), inst(1, 5), inst(math.MinInt, math.MaxInt)) {
		if r, is := l.Get(i); is || !same(r, api.Record{}) {
			t.Errorf("Get(%v) = %v, %v", i, r, is)
		}
	}
}

func TestP9_2GetOfOne(t *testing.T) {
	l := opened(t, disk.New(3000))
	l.Append(validRecords()...)
	for _, want := range validRecords() {
		if r, is := l.Get(want.Inst); !is || !same(r, want) {
			t.Errorf("Get(%v) = %v, %v, want %v", want.Inst, r, is, want)
		}
	}
}

// The last record counts, also where another one has a greater Status, Promise or Seq, or more in it.
func TestP9_2GetOfSeveral(t *testing.T) {
	all := []api.Record{
		busy(1, 2, 3),
		noop(1, 2, 9),
		with(busy(1, 2, 8), func(r *api.Record) { r.Status, r.Kept = api.Committed, false }),
		{Inst: inst(1, 2)},
		blank(1, 2),
	}
	for k := range all {
		l := opened(t, disk.New(1000))
		rows := slices.Concat(all[k:], all[:k])
		for n, want := range rows {
			l.Append(noop(2, 1, n+1))
			l.Append(want)
			l.Append(noop(1, 3, n+1), noop(0, 2, n+1))
			if r, is := l.Get(inst(1, 2)); !is || !same(r, want) {
				t.Errorf("Get behind %d records = %v, %v, want %v", n+1, r, is, want)
			}
			if n%2 == 0 {
				l.Sync()
			}
			again := opened(t, l.Disk().Copy())
			if r, is := again.Get(inst(1, 2)); !is || !same(r, want) {
				t.Errorf("Get behind %d records and Open = %v, %v, want %v", n+1, r, is, want)
			}
		}
	}
}

func TestP9_2All(t *testing.T) {
	a, b := noop(1, 2, 5), busy(0, 3, 6)
	l := opened(t, disk.New(1000))
	checkRecords(t, "All of no records", l.All(), nil)
	l.Append(a, b, a)
	checkRecords(t, "All", l.All(), []api.Record{a, b, a})
	l.Append(b)
	l.Sync()
	l.Append(a, a)
	checkRecords(t, "All", l.All(), []api.Record{a, b, a, b, a, a})
	checkRecords(t, "All once more", l.All(), []api.Record{a, b, a, b, a, a})
}

func TestP9_2Firm(t *testing.T) {
	a, b, c := noop(1, 2, 5), busy(0, 3, 6), noop(1, 2, 7)
	l := opened(t, disk.New(1000))
	checkRecords(t, "Firm of no records", l.Firm(), nil)
	l.Append(a)
	checkRecords(t, "Firm behind Append", l.Firm(), nil)
	l.Sync()
	checkRecords(t, "Firm behind Sync", l.Firm(), []api.Record{a})
	l.Append(b)
	l.Append(c)
	checkRecords(t, "Firm behind Append", l.Firm(), []api.Record{a})
	l.Append(api.Record{})
	l.Append(slices.Repeat([]api.Record{a}, 100)...)
	checkRecords(t, "Firm behind Append that is refused", l.Firm(), []api.Record{a})
	again := opened(t, l.Disk().Copy())
	checkRecords(t, "Firm behind Open", again.Firm(), []api.Record{a})
	again.Sync()
	checkRecords(t, "Firm behind Open and Sync", again.Firm(), []api.Record{a, b, c})
	checkErr(t, "Compact", l.Compact(), api.OK)
	checkRecords(t, "Firm behind Compact", l.Firm(), []api.Record{b, c})
	l.Append(a, b)
	checkRecords(t, "Firm behind Compact and Append", l.Firm(), []api.Record{b, c})
	l.Sync()
	checkRecords(t, "Firm behind Compact and Sync", l.Firm(), []api.Record{b, c, a, b})
}

// Of a disk that is safe up to any byte, the records are firm whose frames end there or before.
func TestP9_2FirmOfADiskThatIsSafeInPart(t *testing.T) {
	all := []api.Record{noop(1, 2, 5), busy(0, 300, 6), noop(1, 2, 7)}
	b := framesOf(all)
	for safe := range len(b) + 1 {
		l, m := opened(t, made(500, b[:safe], b[safe:])), model{500, all, safe}
		check(t, strconv.Itoa(safe)+" bytes are safe", l, m)
		l.Append(noop(3, 3, 3))
		m.append(noop(3, 3, 3))
		check(t, strconv.Itoa(safe)+" bytes are safe, and Append", l, m)
		checkErr(t, "Append", l.Append(api.Record{}), api.ErrArg)
		checkErr(t, "Append", l.Append(slices.Repeat(all, 100)...), api.ErrFull)
		check(t, strconv.Itoa(safe)+" bytes are safe, and Append that is refused", l, m)
		l.Sync()
		m.sync()
		check(t, strconv.Itoa(safe)+" bytes are safe, and Sync", l, m)
	}
}

func TestP9_2Insts(t *testing.T) {
	want := []api.Instance{inst(0, 2), inst(0, 9), inst(0, 10), inst(1, 1), inst(1, slot), inst(2, 100), inst(3, 5), inst(5, 1), inst(6, 1), inst(6, 2)}
	n := len(want)
	for start := range n {
		for step := range n {
			l := opened(t, disk.New(2000))
			done := map[int]bool{}
			for k := range 3 * n {
				at := (start + k*step) % n
				done[at] = true
				l.Append(noop(want[at].Replica, want[at].Slot, k+1))
			}
			var left []api.Instance
			for at, i := range want {
				if done[at] {
					left = append(left, i)
				}
			}
			if got := l.Insts(); !slices.Equal(got, left) {
				t.Errorf("Insts = %v, want %v", got, left)
			}
		}
	}
}

// A map that stands behind it may be gone through in any order: it is never seen.
func TestP9_2OfManyInstances(t *testing.T) {
	l, m := opened(t, disk.New(6000)), model{size: 6000}
	for k := range 120 {
		r := noop(k*5%7, k*37%20+1, k+1)
		l.Append(r)
		m.append(r)
	}
	for range 20 {
		check(t, "many instances", l, m)
		c := opened(t, l.Disk().Copy())
		n := m
		checkErr(t, "Compact of many instances", c.Compact(), api.OK)
		n.compact()
		check(t, "Compact of many instances", c, n)
	}
}

func TestP9_2Compact(t *testing.T) {
	a, b, c, d := noop(6, 1, 5), busy(0, 300, 6), noop(6, 1, 7), busy(3, 2, 8)
	for _, all := range [][]api.Record{nil, {a}, {a, c}, {c, a}, {a, b}, {b, a}, {a, b, c}, {d, b, a, c, b}, {a, a, a}, {d, c, b, a, d}} {
		for safe := range len(all) + 1 {
			l := opened(t, made(900, framesOf(all[:safe]), framesOf(all[safe:])))
			m := model{900, all, len(framesOf(all[:safe]))}
			check(t, "a log", l, m)
			m.compact()
			for _, what := range []string{"Compact", "Compact twice", "Compact three times"} {
				checkErr(t, what, l.Compact(), api.OK)
				check(t, what, l, m)
			}
			check(t, "Open behind Compact", opened(t, l.Disk().Copy()), m)
			checkErr(t, "Append behind Compact", l.Append(a, d), m.append(a, d))
			check(t, "Append behind Compact", l, m)
			checkErr(t, "Compact behind Append", l.Compact(), api.OK)
			m.compact()
			check(t, "Compact behind Append", l, m)
		}
	}
}

func TestP9_2CompactOfALogWithoutRecords(t *testing.T) {
	for _, size := range []int{0, 1, 100, most} {
		l := opened(t, disk.New(size))
		checkErr(t, "Compact of no records", l.Compact(), api.OK)
		check(t, "Compact of no records", l, model{size: size})
	}
}

// Compact makes room where there was none.
func TestP9_2CompactOfAFullDisk(t *testing.T) {
	a, b := noop(1, 1, 1), noop(1, 1, 2)
	size := len(framesOf([]api.Record{a, b}))
	l, m := opened(t, disk.New(size)), model{size: size}
	l.Append(a, b)
	m.append(a, b)
	checkErr(t, "Append to a full disk", l.Append(a), api.ErrFull)
	checkErr(t, "Compact of a full disk", l.Compact(), api.OK)
	m.compact()
	check(t, "Compact of a full disk", l, m)
	checkErr(t, "Append behind it", l.Append(a), m.append(a))
	check(t, "Append behind it", l, m)

	full := opened(t, disk.New(size))
	full.Append(noop(1, 2, 2), noop(1, 1, 1))
	checkErr(t, "Compact of a full disk", full.Compact(), api.OK)
	check(t, "Compact where all records are current", full, model{size, []api.Record{noop(1, 1, 1), noop(1, 2, 2)}, size})
}

func TestP9_2Disk(t *testing.T) {
	d := disk.New(500)
	l := opened(t, d)
	for _, c := range []call{callAppend("one", noop(1, 1, 1)), callSync(), callCompact(), callAppend("none"), callAppend("a wrong one", api.Record{})} {
		c.do(l)
		if l.Disk() != d {
			t.Errorf("Disk behind %s is another one", c.name)
		}
	}
	if !bytes.Equal(d.Bytes(), frameOf(noop(1, 1, 1))) {
		t.Errorf("the disk has %v", d.Bytes())
	}
}

func TestP9_2NilLog(t *testing.T) {
	var l *wal.Log
	for _, r := range [][]api.Record{nil, {}, {noop(1, 1, 1)}, {api.Record{}}, validRecords(), wrongRecords(), slices.Repeat(validRecords(), 3000)} {
		checkErr(t, "Append to nil", l.Append(r...), api.ErrArg)
	}
	checkErr(t, "Compact of nil", l.Compact(), api.ErrArg)
	l.Sync()
	if l.Synced() {
		t.Error("Synced of nil = true")
	}
	for _, i := range absent() {
		if r, is := l.Get(i); is || !same(r, api.Record{}) {
			t.Errorf("Get(%v) of nil = %v, %v", i, r, is)
		}
	}
	if len(l.All()) != 0 || len(l.Firm()) != 0 || len(l.Insts()) != 0 {
		t.Errorf("nil has %v, %v, %v", l.All(), l.Firm(), l.Insts())
	}
	if l.Disk() != nil {
		t.Error("nil has a disk")
	}
}

// What Open did not return is promised nothing; it ends.
func TestOfAZeroLog(t *testing.T) {
	l := new(wal.Log)
	checkErr(t, "Append", l.Append(noop(1, 1, 1)), api.ErrArg)
	checkErr(t, "Compact", l.Compact(), api.ErrArg)
	l.Sync()
	l.Get(inst(1, 1))
	if l.Synced() || len(l.All()) != 0 || len(l.Firm()) != 0 || len(l.Insts()) != 0 || l.Disk() != nil {
		t.Error("a zero log has something")
	}
}

// Open takes a disk that New did not return, too.
func TestOfAZeroDisk(t *testing.T) {
	l := opened(t, new(disk.Disk))
	check(t, "the log of a zero disk", l, model{})
	checkErr(t, "Append", l.Append(noop(1, 1, 1)), api.ErrFull)
	checkErr(t, "Compact", l.Compact(), api.OK)
	check(t, "the log of a zero disk", l, model{})
}

func TestExampleOfTheDocument(t *testing.T) {
	a, b := busy(1, 1, 1), busy(2, 1, 2)
	d := disk.New(500)
	l := opened(t, d)
	l.Append(a)
	l.Sync()
	l.Append(b)
	d.Crash(1, -1, 0)
	check(t, "the example", opened(t, d), model{500, []api.Record{a}, len(frameOf(a))})
}
