package wal_test

import (
	"slices"
	"strconv"
	"testing"

	"althing/api"
	"althing/disk"
	"althing/wal"
)

func crashName(keep, at int, by byte) string {
	return "Crash(" + strconv.Itoa(keep) + ", " + strconv.Itoa(at) + ", " + strconv.Itoa(int(by)) + ")"
}

// Two records are safe and three are not: each crash that can be told from others, then Open.
func TestP9_3EachCrash(t *testing.T) {
	all := []api.Record{noop(1, 2, 5), blank(0, 3), noop(1, 2, 7), noop(0, 3, 8), noop(1, 2, 9)}
	start := len(framesOf(all[:2]))
	d := made(500, framesOf(all[:2]), framesOf(all[2:]))
	loose := len(framesOf(all)) - start
	for keep := -2; keep <= loose+2; keep++ {
		for at := -2; at <= loose+2; at++ {
			for _, by := range []byte{0, 1, 255} {
				if by != 1 && keep%7 != 0 && keep < loose-2 {
					continue
				}
				crashed := d.Copy()
				crashed.Crash(keep, at, by)
				got := opened(t, crashed).All()
				m := model{500, all, start}
				m.crash(keep, at, by)
				if !slices.EqualFunc(got, m.records, same) || crashed.Safe() != len(framesOf(m.records)) {
					t.Fatalf("%s, Open: %v, %d safe, want %v", crashName(keep, at, by), got, crashed.Safe(), m.records)
				}
				if len(got) < 2 || len(got) > 5 || !slices.EqualFunc(got, all[:len(got)], same) {
					t.Fatalf("%s, Open: %v are not the safe ones and the first of the others", crashName(keep, at, by), got)
				}
			}
		}
	}
}

// None, some and all of the bytes are left, or one of them is turned: all that a log tells then.
func TestP9_3SomeCrashes(t *testing.T) {
	for _, c := range []struct {
		keep, at int
		by       byte
		want     int // how many of the three records there are
	}{
		{0, -1, 0, 1}, {-9, 0, 255, 1}, {1, -1, 0, 1}, {1, 0, 255, 1},
		{len(frameOf(busy(0, 300, 6))) - 1, -1, 0, 1},
		{len(frameOf(busy(0, 300, 6))), -1, 0, 2},
		{len(frameOf(busy(0, 300, 6))), 0, 0, 2},
		{len(frameOf(busy(0, 300, 6))), 0, 1, 1},
		{len(frameOf(busy(0, 300, 6))), len(frameOf(busy(0, 300, 6))), 1, 2},
		{len(frameOf(busy(0, 300, 6))) + 1, len(frameOf(busy(0, 300, 6))), 1, 2},
		{1000, -1, 255, 3}, {1000, 0, 0, 3}, {1000, 0, 4, 1}, {1000, 999, 4, 3},
		{1000, len(frameOf(busy(0, 300, 6))) - 1, 4, 1},
		{1000, len(frameOf(busy(0, 300, 6))), 4, 2},
	} {
		l, m := log3(t)
		l.Disk().Crash(c.keep, c.at, c.by)
		again := opened(t, l.Disk())
		m.records = m.records[:c.want]
		m.sync()
		check(t, crashName(c.keep, c.at, c.by)+", Open", again, m)
		for _, next := range []call{callAppend("b", busy(0, 300, 9), noop(2, 2, 2)), callSync(), callAppend("c", noop(1, 2, 10)), callCompact(), callAppend("d", noop(1, 2, 11))} {
			checkErr(t, next.name, next.do(again), next.told(&m))
			check(t, crashName(c.keep, c.at, c.by)+", Open, "+next.name, again, m)
		}
	}
}

// What Firm tells is there behind any crash, in the same place.
func TestP9_3WhatIsFirmIsThere(t *testing.T) {
	for _, start := range []func() *wal.Log{
		func() *wal.Log { l, _ := log3(t); return l },
		func() *wal.Log { l, _ := log3(t); l.Compact(); l.Append(noop(1, 2, 9)); return l },
		func() *wal.Log { l, _ := log3(t); l.Sync(); l.Append(noop(1, 2, 9), noop(1, 3, 1)); return l },
		func() *wal.Log { l, _ := log3(t); l.Append(api.Record{}); l.Compact(); return l },
		func() *wal.Log {
			b := framesOf([]api.Record{noop(1, 1, 1), noop(1, 1, 2), noop(1, 1, 3)})
			return opened(t, made(300, b[:len(b)/2], b[len(b)/2:]))
		},
	} {
		for keep := -1; keep < 120; keep += 3 {
			for at := -1; at < keep+2; at += 5 {
				l := start()
				firm, all := l.Firm(), l.All()
				l.Disk().Crash(keep, at, 16)
				got := opened(t, l.Disk()).All()
				if len(got) < len(firm) || len(got) > len(all) || !slices.EqualFunc(got, all[:len(got)], same) || !slices.EqualFunc(got[:len(firm)], firm, same) {
					t.Errorf("%s, Open: %v, where %v were firm of %v", crashName(keep, at, 16), got, firm, all)
				}
			}
		}
	}
}

// A log whose disk a crash hits tells at once what is left, and goes on as one that is opened then.
func TestP9_3ACrashWithoutOpen(t *testing.T) {
	for keep := -1; keep < 120; keep++ {
		for at := -1; at < keep; at += 4 {
			l, m := log3(t)
			l.All()
			l.Disk().Crash(keep, at, 2)
			m.crash(keep, at, 2)
			checkRecords(t, "All behind "+crashName(keep, at, 2), l.All(), m.records)
			checkRecords(t, "Firm behind "+crashName(keep, at, 2), l.Firm(), m.records)
			if got := l.Insts(); !slices.Equal(got, m.insts()) || !l.Synced() {
				t.Errorf("Insts behind %s = %v, want %v", crashName(keep, at, 2), got, m.insts())
			}
			next := []call{callAppend("one", noop(3, 3, 3)), callSync(), callCompact()}[(keep+at/4+2)%3]
			if next.name == "Sync" {
				l.Sync()
				checkErr(t, "Append", l.Append(noop(3, 3, 3)), m.append(noop(3, 3, 3)))
			} else {
				checkErr(t, next.name, next.do(l), next.told(&m))
			}
			check(t, crashName(keep, at, 2)+", "+next.name, l, m)
			check(t, crashName(keep, at, 2)+", "+next.name+", Open", opened(t, l.Disk()), m)
		}
	}
}

// What a crash left that is no record takes no room from what is appended, and stays where that does not fit, also by one byte.
func TestP9_3AppendBehindACrashWithoutOpen(t *testing.T) {
	a, b := noop(1, 1, 1), noop(1, 1, 2)
	n := len(frameOf(b))
	for keep := range n {
		for _, size := range []int{len(frameOf(a)) + n, len(frameOf(a)) + n + 1, len(frameOf(a)) + 2*n - 1} {
			l, m := opened(t, disk.New(size)), model{size: size}
			l.Append(a)
			m.append(a)
			l.Sync()
			m.sync()
			l.Append(b)
			l.Disk().Crash(keep, -1, 0)
			left := l.Disk().Bytes()
			what := "Append behind " + crashName(keep, -1, 0)
			checkErr(t, what+", of one too many", l.Append(b, b), api.ErrFull)
			checkErr(t, what+", of many too many", l.Append(slices.Repeat([]api.Record{a}, 100)...), api.ErrFull)
			checkErr(t, what+", of a wrong one", l.Append(b, api.Record{}), api.ErrArg)
			if !slices.Equal(l.Disk().Bytes(), left) {
				t.Errorf("%s that is refused changed the disk", what)
			}
			checkRecords(t, "All", l.All(), []api.Record{a})
			checkErr(t, what+", of what fits", l.Append(b), m.append(b))
			check(t, what+", of what fits", l, m)
		}
	}
}

func TestP9_4CompactChangesNoCurrentRecord(t *testing.T) {
	all := []api.Record{noop(6, 1, 5), busy(0, 300, 6), blank(6, 1), noop(2, 9, 1), noop(2, 10, 2), busy(6, 1, 8), busy(0, 300, 1), noop(2, 9, 3)}
	for n := range len(all) + 1 {
		for safe := range n + 1 {
			l := opened(t, made(900, framesOf(all[:safe]), framesOf(all[safe:n])))
			before := map[api.Instance]api.Record{}
			insts := l.Insts()
			for _, i := range insts {
				before[i], _ = l.Get(i)
			}
			checkErr(t, "Compact", l.Compact(), api.OK)
			l.Disk().Crash(0, 0, 255)
			for name, log := range map[string]*wal.Log{"the log": l, "a log that is opened then": opened(t, l.Disk().Copy())} {
				if got := log.Insts(); !slices.Equal(got, insts) || len(log.All()) != len(insts) {
					t.Errorf("behind Compact %s has %v, want %v", name, got, insts)
				}
				for i, want := range before {
					if r, is := log.Get(i); !is || !same(r, want) {
						t.Errorf("behind Compact, Get(%v) of %s = %v, %v, want %v", i, name, r, is, want)
					}
				}
			}
		}
	}
}

func someCalls() []call {
	a, b := noop(1, 1, 1), noop(0, 2, 2)
	return []call{
		callAppend("none"), callAppend("a", a), callAppend("another a", noop(1, 1, 3)), callAppend("b", b), callAppend("two of a and b", a, b, noop(1, 1, 4)),
		callAppend("a busy one", busy(0, 2, 5)), callAppend("a wrong one", api.Record{}), callAppend("a and a wrong one", a, noop(0, 0, 1)),
		callSync(), callCompact(), callOpen(),
		callCrash("that loses all", 0, -1, 0), callCrash("that keeps all", 1000, -1, 0), callCrash("that keeps a part", 40, -1, 0), callCrash("that turns a byte", 1000, 40, 8),
	}
}

// Each row of three calls, on disks where some do not fit.
func TestP9_1EachRowOfCalls(t *testing.T) {
	calls := someCalls()
	n := len(calls)
	for _, size := range []int{0, 60, 150} {
		for k := range n * n * n {
			l, m := opened(t, disk.New(size)), model{size: size}
			row := ""
			for _, c := range []call{calls[k/n/n], calls[k/n%n], calls[k%n]} {
				row += c.name + ", "
				checkErr(t, row, c.do(l), c.told(&m))
			}
			check(t, row, l, m)
		}
	}
}

// A long row of calls on one log; not each of them is looked at, as a call that tells may change what a later one does.
func TestP9_1ALongRowOfCalls(t *testing.T) {
	calls := someCalls()
	for _, size := range []int{100, 220, 700} {
		for seldom := 1; seldom < 20; seldom += 6 {
			l, m := opened(t, disk.New(size)), model{size: size}
			state := uint32(size + seldom)
			for k := range 1500 {
				state = state*1664525 + 1013904223
				c := calls[state>>16%uint32(len(calls))]
				what := "call " + strconv.Itoa(k) + ", " + c.name
				checkErr(t, what, c.do(l), c.told(&m))
				if k%seldom == 0 {
					check(t, what, l, m)
				}
				if t.Failed() {
					return
				}
			}
		}
	}
}

// Logs on disks of their own are apart.
func TestLogsAreApart(t *testing.T) {
	a, b := noop(1, 1, 1), busy(0, 2, 2)
	first, second := opened(t, disk.New(300)), opened(t, disk.New(300))
	first.Append(a, b)
	second.Append(b)
	second.Sync()
	third := opened(t, first.Disk().Copy())
	third.Append(a)
	first.Compact()
	check(t, "the first log", first, model{300, []api.Record{b, a}, len(framesOf([]api.Record{a, b}))})
	check(t, "the second log", second, model{300, []api.Record{b}, len(frameOf(b))})
	check(t, "the third log", third, model{300, []api.Record{a, b, a}, 0})
}

// partners are ways to come by a second log on the same disk.
func partners() map[string]func(l *wal.Log) *wal.Log {
	return map[string]func(l *wal.Log) *wal.Log{
		"a copy": func(l *wal.Log) *wal.Log {
			c := *l
			return &c
		},
		"a log that was opened": func(l *wal.Log) *wal.Log {
			c, _ := wal.Open(l.Disk())
			return c
		},
	}
}

// Two logs on one disk, in turns: what one of them does is seen by the other one, also where the bytes are as many as before.
func TestLogsOfOneDisk(t *testing.T) {
	calls := someCalls()
	for name, partner := range partners() {
		for x, first := range calls {
			for y, second := range calls {
				l, m := log3(t)
				c := partner(l)
				checkErr(t, first.name, first.do(l), first.told(&m))
				if (x+y)%2 == 0 {
					check(t, name+": the other one behind "+first.name, c, m)
				}
				checkErr(t, second.name, second.do(c), second.told(&m))
				what := name + ": " + first.name + " and " + second.name
				check(t, what+": the first one", l, m)
				check(t, what+": the other one", c, m)
			}
		}
		l, m := opened(t, disk.New(200)), model{size: 200}
		c := partner(l)
		l.Append(noop(2, 1, 1), noop(1, 1, 2))
		l.Sync()
		m.append(noop(2, 1, 1), noop(1, 1, 2))
		check(t, name+": the first one", l, m.synced())
		c.Compact()
		m.compact()
		check(t, name+": the first one behind Compact of the other one", l, m)
		l.Append(noop(3, 1, 1))
		l.All()
		l.Disk().Crash(0, 0, 0)
		c.Append(noop(3, 1, 2))
		m.append(noop(3, 1, 2))
		check(t, name+": the first one behind Append of the other one", l, m)
	}
}

func (m model) synced() model {
	m.sync()
	return m
}
