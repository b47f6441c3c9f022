package wal_test

import (
	"bytes"
	"slices"
	"strconv"
	"testing"

	"althing/api"
	"althing/disk"
	"althing/frame"
	"althing/wal"
	"althing/wire"
)

const (
	most   = 1 << 20 // the greatest capacity of a disk
	slot   = 1 << 20 // the greatest slot
	number = 1 << 40 // the greatest number
)

func inst(replica, slot int) api.Instance {
	return api.Instance{Replica: replica, Slot: slot}
}

// noop is a record of a Noop that is pre-accepted.
func noop(replica, slot, seq int) api.Record {
	return api.Record{Inst: inst(replica, slot), Status: api.PreAccept, Seq: seq}
}

// busy is a record with something else in each field, also for other seq.
func busy(replica, slot, seq int) api.Record {
	return api.Record{
		Inst:    inst(replica, slot),
		Status:  api.PreAccept,
		Promise: api.Ballot{Number: seq + 9, Replica: 4},
		Ballot:  api.Ballot{Number: seq + 8, Replica: 5},
		Cmd: api.Command{
			Kind:   api.Validate,
			Txn:    api.Txn{Client: 1, Number: seq + 200},
			At:     api.Stamp{Time: seq + 5, Client: 1},
			Shards: 3,
			Reads:  []api.Read{{Key: "a", Version: api.Stamp{Time: seq, Client: 2}}, {Key: "c"}},
			Writes: []api.Write{{Key: "b", Value: "x" + strconv.Itoa(seq%100)}, {Key: "c"}, {Key: "d", Value: "z"}},
		},
		Seq:  seq,
		Deps: api.Deps{seq % 7, 11, 12, 13, 14, 15, 16},
		Kept: true,
	}
}

// blank is a record of which nothing but a promise is known.
func blank(replica, slot int) api.Record {
	return api.Record{Inst: inst(replica, slot), Promise: api.Ballot{Number: 2, Replica: 3}}
}

func with(r api.Record, change func(r *api.Record)) api.Record {
	change(&r)
	return r
}

// bigCommand is a command with as many bytes as can be.
func bigCommand() api.Command {
	c := api.Command{Kind: api.Decide, Txn: api.Txn{Client: 3, Number: number}, At: api.Stamp{Time: number, Client: 3}, Shards: 15, Commit: true}
	for k := range 8 {
		key := "abcdefg" + strconv.Itoa(k)
		c.Reads = append(c.Reads, api.Read{Key: key, Version: api.Stamp{Time: number - 1, Client: 3}})
		c.Writes = append(c.Writes, api.Write{Key: key, Value: "12345678"})
	}
	return c
}

// validRecords are records of all kinds, each of another instance.
func validRecords() []api.Record {
	top := api.Ballot{Number: number, Replica: 6}
	return []api.Record{
		noop(0, 1, 1),
		noop(6, slot, number),
		busy(2, 300, 7),
		blank(1, 1),
		{Inst: inst(3, 4)},
		with(busy(2, 301, 8), func(r *api.Record) { r.Kept = false }),
		with(busy(2, 302, 9), func(r *api.Record) { r.Status, r.Kept = api.Accepted, false }),
		with(busy(2, 303, 10), func(r *api.Record) { r.Status, r.Kept = api.Committed, false }),
		with(busy(2, 304, 11), func(r *api.Record) { r.Cmd.Kind, r.Cmd.Commit = api.Decide, true }),
		with(busy(2, 305, 12), func(r *api.Record) { r.Cmd.Reads = nil }),
		with(busy(2, 306, 13), func(r *api.Record) { r.Cmd.Writes = nil }),
		{Inst: inst(6, slot-1), Status: api.Committed, Promise: top, Ballot: top, Cmd: bigCommand(), Seq: number, Deps: api.Deps{slot, slot, slot, slot, slot, slot, slot}},
	}
}

// wrongRecords are not valid, each for another reason.
func wrongRecords() []api.Record {
	return []api.Record{
		{},
		noop(0, 0, 1),
		noop(0, -1, 1),
		noop(-1, 1, 1),
		noop(7, 1, 1),
		noop(0, slot+1, 1),
		noop(0, 1, 0),
		noop(0, 1, -1),
		noop(0, 1, number+1),
		with(noop(0, 1, 1), func(r *api.Record) { r.Status = 4 }),
		with(noop(0, 1, 1), func(r *api.Record) { r.Status = -1 }),
		with(noop(0, 1, 1), func(r *api.Record) { r.Status = api.None }),
		with(noop(0, 1, 1), func(r *api.Record) { r.Status, r.Kept = api.Committed, true }),
		with(noop(0, 1, 1), func(r *api.Record) { r.Ballot.Number = 1 }),
		with(noop(0, 1, 1), func(r *api.Record) { r.Promise.Number = -1 }),
		with(noop(0, 1, 1), func(r *api.Record) { r.Promise.Replica = 7 }),
		with(noop(0, 1, 1), func(r *api.Record) { r.Deps[6] = slot + 1 }),
		with(noop(0, 1, 1), func(r *api.Record) { r.Deps[0] = -1 }),
		with(noop(0, 1, 1), func(r *api.Record) { r.Cmd.Shards = 1 }),
		with(busy(0, 1, 1), func(r *api.Record) { r.Cmd.Reads = []api.Read{{Key: "c"}, {Key: "a"}} }),
		with(busy(0, 1, 1), func(r *api.Record) { r.Cmd.Writes = []api.Write{{Key: "abcdefghi"}} }),
		with(busy(0, 1, 1), func(r *api.Record) { r.Cmd.Commit = true }),
		with(blank(0, 1), func(r *api.Record) { r.Kept = true }),
	}
}

// frameOf is the frame of a record.
func frameOf(r api.Record) []byte {
	payload, _ := wire.Encode(r)
	return framed(payload)
}

func framed(payload []byte) []byte {
	b, _ := frame.Put(nil, payload)
	return b
}

func framesOf(l []api.Record) []byte {
	var b []byte
	for _, r := range l {
		b = append(b, frameOf(r)...)
	}
	return b
}

// made is a disk that has bytes that are safe and, behind them, others that are not.
func made(size int, safe, rest []byte) *disk.Disk {
	d := disk.New(size)
	d.Append(safe)
	d.Sync()
	d.Append(rest)
	return d
}

// opened is the log of a disk; each disk has one.
func opened(t *testing.T, d *disk.Disk) *wal.Log {
	t.Helper()
	l, err := wal.Open(d)
	if err != api.OK || l == nil || l.Disk() != d {
		t.Fatalf("Open = %v, %d", l, err)
	}
	return l
}

// log3 is a log for 500 bytes with records a, b and c, of which a is safe.
func log3(t *testing.T) (*wal.Log, model) {
	t.Helper()
	a, b, c := noop(1, 2, 5), busy(0, 300, 6), noop(1, 2, 7)
	l := opened(t, disk.New(500))
	checkErr(t, "Append of the first record", l.Append(a), api.OK)
	l.Sync()
	checkErr(t, "Append of two more", l.Append(b, c), api.OK)
	m := model{500, []api.Record{a, b, c}, len(frameOf(a))}
	check(t, "log3", l, m)
	return l, m
}

// model is a log as the document words it: a capacity, records, and how many bytes of their frames are safe.
type model struct {
	size    int
	records []api.Record
	safe    int
}

func (m *model) append(l ...api.Record) api.Errno {
	for _, r := range l {
		if !wire.RightRecord(r) {
			return api.ErrArg
		}
	}
	if len(framesOf(m.records))+len(framesOf(l)) > m.size {
		return api.ErrFull
	}
	m.records = slices.Concat(m.records, l)
	return api.OK
}

func (m *model) sync() {
	m.safe = len(framesOf(m.records))
}

func (m *model) compact() {
	var left []api.Record
	for _, i := range m.insts() {
		r, _ := m.get(i)
		left = append(left, r)
	}
	m.records = left
	m.sync()
}

// crash is a crash, and Open behind it.
func (m *model) crash(keep, at int, by byte) {
	var left []api.Record
	start, bad := 0, m.safe+at
	for _, r := range m.records {
		end := start + len(frameOf(r))
		isCut := end > m.safe && end-m.safe > keep
		isTurned := by != 0 && at >= 0 && at < keep && start <= bad && bad < end
		if isCut || isTurned {
			break
		}
		left = append(left, r)
		start = end
	}
	m.records = left
	m.sync()
}

func (m *model) get(i api.Instance) (api.Record, bool) {
	for k := len(m.records) - 1; k >= 0; k-- {
		if m.records[k].Inst == i {
			return m.records[k], true
		}
	}
	return api.Record{}, false
}

// insts is the instances of all records, each put in its place.
func (m *model) insts() []api.Instance {
	var l []api.Instance
	for _, r := range m.records {
		at := 0
		for at < len(l) && (l[at].Replica < r.Inst.Replica || l[at].Replica == r.Inst.Replica && l[at].Slot < r.Inst.Slot) {
			at++
		}
		if at == len(l) || l[at] != r.Inst {
			l = slices.Insert(l, at, r.Inst)
		}
	}
	return l
}

// firm is the records whose frames are within the safe bytes.
func (m *model) firm() []api.Record {
	var l []api.Record
	end := 0
	for _, r := range m.records {
		end += len(frameOf(r))
		if end <= m.safe {
			l = append(l, r)
		}
	}
	return l
}

// absent are instances that may have no record, and some that can't have one.
func absent() []api.Instance {
	return []api.Instance{{}, inst(0, 1), inst(1, 1), inst(1, 2), inst(1, 3), inst(2, 1), inst(6, slot), inst(1, 0), inst(1, -2), inst(-1, 2), inst(7, 1), inst(1, slot+2), inst(1, 1<<32+2), inst(1<<32+1, 2)}
}

// check says what of a log is not as the model has it: what each call tells, and what the disk has.
func check(t *testing.T, what string, l *wal.Log, m model) {
	t.Helper()
	want := framesOf(m.records)
	checkRecords(t, what+": All", l.All(), m.records)
	checkRecords(t, what+": Firm", l.Firm(), m.firm())
	if got := l.Insts(); !slices.Equal(got, m.insts()) {
		t.Errorf("%s: Insts = %v, want %v", what, got, m.insts())
	}
	for _, i := range append(m.insts(), absent()...) {
		r, is := l.Get(i)
		if wanted, wants := m.get(i); is != wants || !same(r, wanted) {
			t.Errorf("%s: Get(%v) = %v, %v, want %v, %v", what, i, r, is, wanted, wants)
		}
	}
	if got := l.Synced(); got != (m.safe == len(want)) {
		t.Errorf("%s: Synced = %v with %d of %d bytes safe", what, got, m.safe, len(want))
	}
	d := l.Disk()
	if got := d.Bytes(); !bytes.Equal(got, want) || d.Safe() != m.safe || d.Room() != m.size-len(want) {
		t.Errorf("%s: the disk has %d bytes, %d safe, room for %d, want %d, %d, %d (the bytes are equal: %v)", what, len(got), d.Safe(), d.Room(), len(want), m.safe, m.size-len(want), bytes.Equal(got, want))
	}
}

func checkRecords(t *testing.T, what string, got, want []api.Record) {
	t.Helper()
	if !slices.EqualFunc(got, want, same) {
		t.Errorf("%s = %v, want %v", what, got, want)
	}
}

func checkErr(t *testing.T, what string, got, want api.Errno) {
	t.Helper()
	if got != want {
		t.Errorf("%s = %d, want %d", what, got, want)
	}
}

// same tells by hand whether two records are the same.
func same(a, b api.Record) bool {
	return a.Inst == b.Inst && a.Status == b.Status && a.Promise == b.Promise && a.Ballot == b.Ballot && a.Seq == b.Seq && a.Deps == b.Deps && a.Kept == b.Kept &&
		a.Cmd.Kind == b.Cmd.Kind && a.Cmd.Txn == b.Cmd.Txn && a.Cmd.At == b.Cmd.At && a.Cmd.Shards == b.Cmd.Shards && a.Cmd.Commit == b.Cmd.Commit &&
		slices.Equal(a.Cmd.Reads, b.Cmd.Reads) && slices.Equal(a.Cmd.Writes, b.Cmd.Writes)
}

// call is a call of a log that may change it, and what the document says that it does.
type call struct {
	name string
	do   func(l *wal.Log) api.Errno
	told func(m *model) api.Errno
}

func callAppend(name string, r ...api.Record) call {
	return call{"Append " + name, func(l *wal.Log) api.Errno { return l.Append(r...) }, func(m *model) api.Errno { return m.append(r...) }}
}

func callSync() call {
	do := func(l *wal.Log) api.Errno {
		l.Sync()
		return api.OK
	}
	told := func(m *model) api.Errno {
		m.sync()
		return api.OK
	}
	return call{"Sync", do, told}
}

func callCompact() call {
	told := func(m *model) api.Errno {
		m.compact()
		return api.OK
	}
	return call{"Compact", (*wal.Log).Compact, told}
}

// callOpen opens the log anew, on the same disk.
func callOpen() call {
	do := func(l *wal.Log) api.Errno {
		other, err := wal.Open(l.Disk())
		if err == api.OK {
			*l = *other
		}
		return err
	}
	return call{"Open", do, func(m *model) api.Errno { return api.OK }}
}

// callCrash is a crash, and Open behind it.
func callCrash(name string, keep, at int, by byte) call {
	do := func(l *wal.Log) api.Errno {
		l.Disk().Crash(keep, at, by)
		return callOpen().do(l)
	}
	told := func(m *model) api.Errno {
		m.crash(keep, at, by)
		return api.OK
	}
	return call{"Crash " + name, do, told}
}
