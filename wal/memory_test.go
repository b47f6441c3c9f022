package wal_test

import (
	"slices"
	"testing"

	"althing/api"
	"althing/disk"
	"althing/wal"
)

// junkRead and junkWrite are what no record has.
var (
	junkRead  = api.Read{Key: "spoilt", Version: api.Stamp{Time: -7, Client: 9}}
	junkWrite = api.Write{Key: "spoilt", Value: "other"}
)

// copied is records with lists of their own, made by hand.
func copied(l []api.Record) []api.Record {
	l = slices.Clone(l)
	for k := range l {
		l[k].Cmd.Reads = append([]api.Read(nil), l[k].Cmd.Reads...)
		l[k].Cmd.Writes = append([]api.Write(nil), l[k].Cmd.Writes...)
	}
	return l
}

// withSpare is records with others in the spare capacity of their list, and junk in that of each list in them, and a function that tells whether all of it is as it was.
func withSpare(l []api.Record) ([]api.Record, func() bool) {
	all := append(copied(l), noop(5, 5, 5), busy(5, 6, 6))
	var checks []func() bool
	for k := range all {
		c := &all[k].Cmd
		r, w := append(c.Reads, junkRead, junkRead), append(c.Writes, junkWrite)
		c.Reads, c.Writes = r[:len(r)-2], w[:len(w)-1]
		reads, writes := slices.Clone(r), slices.Clone(w)
		checks = append(checks, func() bool { return slices.Equal(r, reads) && slices.Equal(w, writes) })
	}
	before := copied(all)
	isSame := func() bool {
		for _, is := range checks {
			if !is() {
				return false
			}
		}
		return slices.EqualFunc(all, before, same)
	}
	return all[:len(l)], isSame
}

// spoilLists overwrites the lists in a record, and their spare capacity.
func spoilLists(r api.Record) {
	reads, writes := r.Cmd.Reads, r.Cmd.Writes
	for k := range reads[:cap(reads)] {
		reads[:cap(reads)][k] = junkRead
	}
	for k := range writes[:cap(writes)] {
		writes[:cap(writes)][k] = junkWrite
	}
}

// spoil overwrites records, their spare capacity, and all lists in them.
func spoil(l []api.Record) {
	l = l[:cap(l)]
	for k := range l {
		spoilLists(l[k])
		l[k] = api.Record{Inst: inst(9, 9), Seq: -1}
	}
}

func spoilInsts(l []api.Instance) {
	l = l[:cap(l)]
	for k := range l {
		l[k] = inst(-7, -7)
	}
}

// sample is records that have lists, several of them of the same instance and two of them equal.
func sample() []api.Record {
	return []api.Record{busy(1, 2, 3), noop(0, 1, 1), busy(1, 2, 4), busy(1, 2, 4), busy(6, 7, 8)}
}

func sampleLog(t *testing.T) (*wal.Log, model) {
	t.Helper()
	l, m := opened(t, disk.New(2000)), model{size: 2000}
	l.Append(sample()[:4]...)
	l.Sync()
	l.Append(sample()[4:]...)
	m.append(sample()[:4]...)
	m.sync()
	m.append(sample()[4:]...)
	check(t, "the sample", l, m)
	return l, m
}

func TestP9_1AppendLeavesItsArgument(t *testing.T) {
	for n := range len(sample()) + 1 {
		for _, size := range []int{2000, 100, 0} {
			r, untouched := withSpare(sample()[:n])
			l := opened(t, disk.New(size))
			l.Append(r...)
			l.Append(r...)
			spoil(l.All())
			l.Sync()
			spoil(l.Firm())
			one, _ := l.Get(inst(1, 2))
			spoilLists(one)
			l.Compact()
			l.Append(noop(1, 2, 9))
			l.Disk().Crash(0, 0, 255)
			l.All()
			if !untouched() {
				t.Errorf("Append of %d to a log for %d bytes, or a later call, changed the argument", n, size)
			}
		}
	}
}

func TestP9_1AppendOfAnInvalidOneLeavesItsArgument(t *testing.T) {
	for _, wrong := range wrongRecords() {
		r, untouched := withSpare(append(sample(), wrong))
		l, m := sampleLog(t)
		checkErr(t, "Append", l.Append(r...), api.ErrArg)
		if !untouched() {
			t.Errorf("Append with %v changed the argument", wrong)
		}
		spoil(r)
		check(t, "a log that refused", l, m)
	}
}

func TestP9_1AppendKeepsNothingOfItsArgument(t *testing.T) {
	for n := range len(sample()) + 1 {
		for _, tells := range []bool{false, true} {
			r, _ := withSpare(sample()[:n])
			l, m := sampleLog(t)
			checkErr(t, "Append", l.Append(r...), api.OK)
			m.append(sample()[:n]...)
			if tells {
				l.All()
			}
			spoil(r)
			check(t, "a log whose argument was changed", l, m)
			l.Compact()
			m.compact()
			check(t, "a log whose argument was changed, behind Compact", l, m)
		}
	}
	r, _ := withSpare(sample())
	l, m := opened(t, disk.New(100)), model{size: 100}
	checkErr(t, "Append", l.Append(r...), api.ErrFull)
	spoil(r)
	check(t, "a log that refused", l, m)
}

// lists are the calls that return records, and how many of the sample they return.
func lists() map[string]func(l *wal.Log) []api.Record {
	return map[string]func(l *wal.Log) []api.Record{
		"All":  (*wal.Log).All,
		"Firm": (*wal.Log).Firm,
		"Get": func(l *wal.Log) []api.Record {
			r, _ := l.Get(inst(1, 2))
			return []api.Record{r}
		},
	}
}

func TestP9_2RecordsAreNewMemory(t *testing.T) {
	for name, ask := range lists() {
		for other, askOther := range lists() {
			l, m := sampleLog(t)
			first, second := ask(l), askOther(l)
			want := copied(second)
			spoil(first)
			check(t, "a log where a result of "+name+" was changed", l, m)
			checkRecords(t, "a result of "+other+" where one of "+name+" was changed", second, want)
			checkRecords(t, "a later result of "+other, askOther(l), want)
			l.Sync()
			l.Append(noop(1, 2, 9))
			l.Compact()
			l.Disk().Crash(0, 0, 0)
			l.Disk().Cut(0)
			l.Append(busy(5, 5, 5), busy(5, 6, 7))
			l.All()
			checkRecords(t, "a result of "+other+" behind later calls", second, want)
		}
	}
}

// No two records of a result have the same lists, nor the same spare capacity.
func TestP9_2RecordsOfAResultAreApart(t *testing.T) {
	for name, ask := range lists() {
		l, _ := sampleLog(t)
		want := ask(l)
		for k := range want {
			got := ask(l)
			spoilLists(got[k])
			for other := range got {
				if other != k && !same(got[other], want[other]) {
					t.Errorf("%s: records %d and %d share memory", name, k, other)
				}
			}
			got = ask(l)
			c := &got[k].Cmd
			c.Reads, c.Writes = append(c.Reads, junkRead), append(c.Writes, junkWrite)
			for other := range got {
				if x, y := got[other].Cmd, c; other != k {
					x.Reads, x.Writes = append(x.Reads, api.Read{Key: "z"}), append(x.Writes, api.Write{Key: "z"})
					if y.Reads[len(y.Reads)-1] != junkRead || y.Writes[len(y.Writes)-1] != junkWrite {
						t.Errorf("%s: records %d and %d share spare capacity", name, k, other)
					}
				}
			}
		}
	}
}

// What is appended to a result goes nowhere where the log or another result has its own.
func TestP9_2ResultsThatAreAppendedTo(t *testing.T) {
	l, m := sampleLog(t)
	first, second := l.All(), l.All()
	firm, insts, others := l.Firm(), l.Insts(), l.Insts()
	first, second = append(first, noop(4, 1, 1)), append(second, noop(4, 2, 2))
	firm = append(firm, noop(4, 3, 3))
	insts, others = append(insts, inst(4, 4)), append(others, inst(4, 5))
	l.Append(noop(4, 6, 6))
	m.append(noop(4, 6, 6))
	check(t, "a log", l, m)
	if first[5].Inst != inst(4, 1) || second[5].Inst != inst(4, 2) || firm[4].Inst != inst(4, 3) || insts[3] != inst(4, 4) || others[3] != inst(4, 5) {
		t.Error("results share memory")
	}
}

func TestP9_2InstsAreNewMemory(t *testing.T) {
	l, m := sampleLog(t)
	first, second := l.Insts(), l.Insts()
	want := slices.Clone(second)
	spoilInsts(first)
	check(t, "a log where a result of Insts was changed", l, m)
	if !slices.Equal(second, want) {
		t.Errorf("two results of Insts share memory: %v", second)
	}
	l.Append(busy(0, 9, 9), busy(5, 6, 7))
	l.Insts()
	l.Compact()
	l.Disk().Cut(0)
	l.Insts()
	if !slices.Equal(second, want) {
		t.Errorf("a result of Insts follows the log: %v", second)
	}
}

// A log takes its own results as arguments.
func TestP9_1AppendOfItsOwnRecords(t *testing.T) {
	l, m := sampleLog(t)
	checkErr(t, "Append of its own", l.Append(l.All()...), m.append(sample()...))
	check(t, "Append of its own", l, m)
}

// The disk's bytes are its own, too.
func TestP9_1OpenKeepsNothingOfTheBytes(t *testing.T) {
	b := framesOf(sample())
	d := disk.New(2000)
	d.Append(b)
	l := opened(t, d)
	for _, bytes := range [][]byte{b, d.Bytes()} {
		for k := range bytes[:cap(bytes)] {
			bytes[:cap(bytes)][k] = 77
		}
	}
	check(t, "a log where bytes were changed", l, model{2000, sample(), 0})
}
