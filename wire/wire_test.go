package wire_test

import (
	"bytes"
	"fmt"
	"math"
	"runtime"
	"slices"
	"strings"
	"testing"

	"althing/api"
	"althing/wire"
)

func checkRecord(t *testing.T, r api.Record, want bool) {
	t.Helper()
	if got := wire.RightRecord(r); got != want {
		t.Errorf("RightRecord(%+v) = %v", r, got)
	}
}

func checkMessage(t *testing.T, m api.Message, want bool) {
	t.Helper()
	if got := wire.RightMessage(m); got != want {
		t.Errorf("RightMessage(%+v) = %v", m, got)
	}
}

func checkEncode(t *testing.T, v any, want []byte, wantErr api.Errno) {
	t.Helper()
	if b, err := wire.Encode(v); !bytes.Equal(b, want) || err != wantErr {
		t.Errorf("Encode(%s) = %v, %d, want %v, %d", text(v), b, err, want, wantErr)
	}
}

// text is v with its type, cut off, as the lists of some values are long.
func text(v any) string {
	return fmt.Sprintf("%T %.200s", v, fmt.Sprintf("%+v", v))
}

// panicOf is the error with which f panics, nil where it does not.
func panicOf(f func()) (err runtime.Error) {
	defer func() {
		if p := recover(); p != nil {
			err = p.(runtime.Error)
		}
	}()
	f()
	return nil
}

func TestP7_1RightRecord(t *testing.T) {
	for _, r := range validRecords() {
		checkRecord(t, r, true)
	}
	for _, r := range slices.Concat(wrongRecords(), strangeRecords()) {
		checkRecord(t, r, false)
	}
}

func TestP7_1RightRecordOfEachStatus(t *testing.T) {
	for _, status := range []int{math.MinInt, -1 << 32, -1, 0, 1, 2, 3, 4, 5, 128, 256, 257, 1 << 32, 1<<32 + 1, math.MaxInt} {
		for _, kept := range []bool{false, true} {
			known, unknown := record(), blank()
			known.Status, known.Kept, unknown.Status, unknown.Kept = status, kept, status, kept
			checkRecord(t, known, status == 1 || !kept && (status == 2 || status == 3))
			checkRecord(t, unknown, status == 0 && !kept)
		}
	}
}

func TestP7_1RightRecordOfEachInstance(t *testing.T) {
	for _, n := range notReplicas() {
		checkRecord(t, recordWith(func(r *api.Record) { r.Inst.Replica = n }), false)
		checkRecord(t, recordWith(func(r *api.Record) { r.Promise.Replica = n }), false)
		checkRecord(t, recordWith(func(r *api.Record) { r.Ballot.Replica = n }), false)
		checkRecord(t, blankWith(func(r *api.Record) { r.Inst.Replica = n }), false)
	}
	for _, n := range []int{math.MinInt, -1, 0, 1, 2, slot - 1, slot, slot + 1, top, math.MaxInt} {
		want := n >= 1 && n <= slot
		checkRecord(t, recordWith(func(r *api.Record) { r.Inst.Slot = n }), want)
		checkRecord(t, blankWith(func(r *api.Record) { r.Inst.Slot = n }), want)
		for k := range 7 {
			checkRecord(t, recordWith(func(r *api.Record) { r.Deps[k] = n }), want || n == 0)
			checkRecord(t, blankWith(func(r *api.Record) { r.Deps[k] = n }), n == 0)
		}
	}
}

func TestP7_1RightRecordOfEachSeq(t *testing.T) {
	for _, n := range []int{math.MinInt, -1 << 32, -1, 0, 1, 2, 127, 128, top - 1, top, top + 1, 1 << 62, math.MaxInt} {
		want := n >= 1 && n <= top
		checkRecord(t, recordWith(func(r *api.Record) { r.Seq = n }), want)
		checkRecord(t, recordWith(func(r *api.Record) { r.Seq, r.Status, r.Kept = n, api.Accepted, false }), want)
		checkRecord(t, recordWith(func(r *api.Record) { r.Seq, r.Status, r.Kept = n, api.Committed, false }), want)
		checkRecord(t, blankWith(func(r *api.Record) { r.Seq = n }), n == 0)
	}
}

// All pairs of some ballots: the Ballot may be the Promise or below it, by Number, then Replica.
func TestP7_1RightRecordOfBallots(t *testing.T) {
	var l []api.Ballot // in increasing order
	for _, number := range []int{0, 1, 2, 127, 128, top - 1, top} {
		for _, replica := range []int{0, 1, 5, 6} {
			l = append(l, api.Ballot{Number: number, Replica: replica})
		}
	}
	for i, promise := range l {
		for k, ballot := range l {
			checkRecord(t, recordWith(func(r *api.Record) { r.Promise, r.Ballot = promise, ballot }), k <= i)
			checkRecord(t, blankWith(func(r *api.Record) { r.Promise, r.Ballot = promise, ballot }), k == 0)
		}
	}
	for _, n := range notNumbers() {
		b := api.Ballot{Number: n}
		checkRecord(t, recordWith(func(r *api.Record) { r.Promise = b }), false)
		checkRecord(t, recordWith(func(r *api.Record) { r.Ballot = b }), false)
		checkRecord(t, recordWith(func(r *api.Record) { r.Promise, r.Ballot = b, b }), false)
		checkRecord(t, blankWith(func(r *api.Record) { r.Promise = b }), false)
	}
}

func TestP7_1RightRecordOfCommands(t *testing.T) {
	for status := api.None; status <= api.Committed; status++ {
		base := recordWith(func(r *api.Record) { r.Status, r.Kept = status, false })
		if status == api.None {
			base = blank()
		}
		for k, c := range validCommands() {
			base.Cmd = c
			checkRecord(t, base, k == 0 || status != api.None)
		}
		for _, c := range slices.Concat(wrongCommands(), strangeCommands()) {
			base.Cmd = c
			checkRecord(t, base, false)
		}
	}
}

// Lists that are empty are no other ones than nil ones.
func TestP7_1RightRecordOfEmptyLists(t *testing.T) {
	empty := api.Command{Reads: []api.Read{}, Writes: some().Writes[:0]}
	checkRecord(t, blankWith(func(r *api.Record) { r.Cmd = empty }), true)
	checkRecord(t, recordWith(func(r *api.Record) { r.Cmd = empty }), true)
	checkEncode(t, empty, []byte{1, 0, 0, 0, 0, 0, 0, 0, 0, 0}, api.OK)
	checkEncode(t, someWith(func(c *api.Command) { c.Reads = []api.Read{} }), raw(someWith(func(c *api.Command) { c.Reads = nil })), api.OK)
}

func TestP7_1RightMessage(t *testing.T) {
	for _, m := range validMessages() {
		checkMessage(t, m, true)
	}
	for _, m := range slices.Concat(wrongMessages(), strangeMessages()) {
		checkMessage(t, m, false)
	}
	for _, n := range []int{math.MinInt, -1 << 32, -8, -1, 0, 1, 2, 3, 4, 5, 6, 7, 8, 9, 10, 255, 257, 1 << 32, 1<<32 + 1, math.MaxInt} {
		checkMessage(t, messageWith(func(m *api.Message) { m.Kind = n }), n >= 1 && n <= 8)
		checkMessage(t, messageWith(func(m *api.Message) { m.From = n }), n >= 0 && n <= 6)
		checkMessage(t, messageWith(func(m *api.Message) { m.To = n }), n >= 0 && n <= 6)
		checkMessage(t, messageWith(func(m *api.Message) { m.Ballot.Replica = n }), n >= 0 && n <= 6)
		checkMessage(t, messageWith(func(m *api.Message) { m.Ballot.Number = n }), n >= 0 && n <= top)
	}
}

// The ballot of a message has nothing to do with those of its record, nor From and To with each other.
func TestP7_1RightMessageOfBallots(t *testing.T) {
	for _, b := range []api.Ballot{{}, {Number: 7, Replica: 6}, {Number: 8, Replica: 5}, {Number: 9, Replica: 4}, {Number: top, Replica: 6}} {
		checkMessage(t, messageWith(func(m *api.Message) { m.Ballot = b }), true)
	}
	for k := range 7 {
		checkMessage(t, messageWith(func(m *api.Message) { m.From, m.To = k, k }), true)
	}
}

func TestP7_1EncodeByHand(t *testing.T) {
	checkEncode(t, api.Command{}, []byte{1, 0, 0, 0, 0, 0, 0, 0, 0, 0}, api.OK)
	c := []byte{1, 1, 1, 200, 1, 5, 1, 3, 2, 1, 'a', 4, 2, 1, 'c', 0, 0, 2, 1, 'b', 2, 'x', 'y', 1, 'c', 0, 0}
	checkEncode(t, some(), c, api.OK)
	decide := slices.Clone(c)
	decide[1] = 2
	checkEncode(t, someWith(func(c *api.Command) { c.Kind = api.Decide }), decide, api.OK)
	decide[len(decide)-1] = 1
	checkEncode(t, someWith(func(c *api.Command) { c.Kind, c.Commit = api.Decide, true }), decide, api.OK)
	r := append([]byte{2, 1, 172, 2, 1, 9, 4, 8, 5, 7, 10, 11, 12, 13, 14, 15, 16, 1}, c...)
	checkEncode(t, record(), r, api.OK)
	m := append([]byte{3, 8, 2, 3, 144, 3, 6}, r...)
	checkEncode(t, message(), m, api.OK)
	checkEncode(t, blank(), append([]byte{2, 1, 172, 2, 0, 9, 4, 0, 0, 0, 0, 0, 0, 0, 0, 0, 0, 0}, 1, 0, 0, 0, 0, 0, 0, 0, 0, 0), api.OK)
}

func TestP7_1EncodeNumbersByHand(t *testing.T) {
	for _, c := range []struct {
		n    int
		want []byte
	}{
		{1, []byte{1}},
		{127, []byte{127}},
		{128, []byte{128, 1}},
		{129, []byte{129, 1}},
		{255, []byte{255, 1}},
		{256, []byte{128, 2}},
		{16383, []byte{255, 127}},
		{16384, []byte{128, 128, 1}},
		{2097151, []byte{255, 255, 127}},
		{2097152, []byte{128, 128, 128, 1}},
		{1<<28 - 1, []byte{255, 255, 255, 127}},
		{1 << 28, []byte{128, 128, 128, 128, 1}},
		{1<<35 - 1, []byte{255, 255, 255, 255, 127}},
		{1 << 35, []byte{128, 128, 128, 128, 128, 1}},
		{top - 1, []byte{255, 255, 255, 255, 255, 31}},
		{top, []byte{128, 128, 128, 128, 128, 32}},
	} {
		r := recordWith(func(r *api.Record) { r.Seq, r.Cmd = c.n, api.Command{} })
		want := append([]byte{2, 1, 172, 2, 1, 9, 4, 8, 5}, c.want...)
		want = append(want, 10, 11, 12, 13, 14, 15, 16, 1, 1, 0, 0, 0, 0, 0, 0, 0, 0, 0)
		checkEncode(t, r, want, api.OK)
		m := messageWith(func(m *api.Message) { m.Ballot, m.R = api.Ballot{Number: c.n}, r })
		checkEncode(t, m, slices.Concat([]byte{3, 8, 2, 3}, c.want, []byte{0}, want), api.OK)
	}
}

func TestP7_1EncodeStringsByHand(t *testing.T) {
	c := someWith(func(c *api.Command) {
		c.Reads = nil
		c.Writes = []api.Write{{Key: "\x00\xff世abc", Value: ""}, {Key: "b", Value: "12345678"}}
	})
	checkEncode(t, c, []byte("\x01\x01\x01\xc8\x01\x05\x01\x03\x00\x02\x08\x00\xff\xe4\xb8\x96abc\x00\x01b\x0812345678\x00"), api.OK)
	c.Writes[1].Value = "123456789"
	checkEncode(t, c, nil, api.ErrArg)
}

func TestP7_1Encode(t *testing.T) {
	for _, v := range validValues() {
		checkEncode(t, v, raw(v), api.OK)
	}
	for _, v := range slices.Concat(wrongValues(), strangeValues()) {
		checkEncode(t, v, nil, api.ErrArg)
	}
}

func TestP7_1EncodeOfOthers(t *testing.T) {
	for _, v := range othersOf() {
		checkEncode(t, v, nil, api.ErrArg)
	}
}

// A message that has as much as it can have is still one that fits in a frame.
func TestP7_1EncodeOfTheGreatest(t *testing.T) {
	keys := strings.Split("aaaaaaaa bbbbbbbb cccccccc dddddddd eeeeeeee ffffffff gggggggg hhhhhhhh", " ")
	m := messageWith(func(m *api.Message) {
		m.Ballot = api.Ballot{Number: top, Replica: 6}
		m.R = api.Record{Inst: api.Instance{Replica: 6, Slot: slot}, Status: api.Accepted, Promise: m.Ballot, Ballot: m.Ballot, Seq: top, Deps: api.Deps{slot, slot, slot, slot, slot, slot, slot}}
		m.R.Cmd = api.Command{Kind: api.Decide, Txn: api.Txn{Client: 3, Number: top}, At: api.Stamp{Time: top, Client: 3}, Shards: 15, Commit: true}
		for _, key := range keys {
			m.R.Cmd.Reads = append(m.R.Cmd.Reads, api.Read{Key: key, Version: api.Stamp{Time: top, Client: 2}})
			m.R.Cmd.Writes = append(m.R.Cmd.Writes, api.Write{Key: key, Value: "12345678"})
		}
	})
	checkEncode(t, m, raw(m), api.OK)
	if b, _ := wire.Encode(m); len(b) > api.MaxRecord {
		t.Errorf("%d bytes", len(b))
	}
}

func TestP7_1EncodeIsNewMemory(t *testing.T) {
	for _, v := range append(validValues(), wrongValues()...) {
		arg, untouched := withSpare(v)
		first, _ := wire.Encode(arg)
		second, err := wire.Encode(arg)
		if !untouched() {
			t.Errorf("Encode(%s) changed its argument", text(v))
		}
		spoilBytes(first)
		if !untouched() || err == api.OK && !bytes.Equal(second, raw(v)) {
			t.Errorf("the result of Encode(%s) shares memory", text(v))
		}
		spoil(arg)
		if err == api.OK && !bytes.Equal(second, raw(v)) {
			t.Errorf("the result of Encode(%s) follows its argument", text(v))
		}
	}
}

// Each value, valid or not, is of its own type, and of no other one.
func TestP7_1CommandRecordMessage(t *testing.T) {
	for _, v := range slices.Concat(validValues(), wrongValues(), strangeValues(), othersOf()) {
		wantC, isC := v.(api.Command)
		wantR, isR := v.(api.Record)
		wantM, isM := v.(api.Message)
		if c, is := wire.Command(v); is != isC || !equal(c, wantC) {
			t.Errorf("Command(%s) = %v, %v", text(v), c, is)
		}
		if r, is := wire.Record(v); is != isR || !equal(r, wantR) {
			t.Errorf("Record(%s) = %v, %v", text(v), r, is)
		}
		if m, is := wire.Message(v); is != isM || !equal(m, wantM) {
			t.Errorf("Message(%s) = %v, %v", text(v), m, is)
		}
	}
}

func TestP7_1CommandRecordMessageOfOthersAreZero(t *testing.T) {
	c, isC := wire.Command(record())
	r, isR := wire.Record(message())
	m, isM := wire.Message(some())
	if isC || isR || isM || !equal(c, api.Command{}) || !equal(r, api.Record{}) || !equal(m, api.Message{}) {
		t.Error("of other types:", c, isC, r, isR, m, isM)
	}
	if c.Reads != nil || c.Writes != nil || r.Cmd.Reads != nil || r.Cmd.Writes != nil || m.R.Cmd.Reads != nil || m.R.Cmd.Writes != nil {
		t.Error("of other types, with lists:", c, r, m)
	}
}

func TestP7_1MustRecord(t *testing.T) {
	for _, r := range slices.Concat(validRecords(), wrongRecords(), strangeRecords()) {
		if got := wire.MustRecord(r); !equal(got, r) {
			t.Errorf("MustRecord(%v) = %v", r, got)
		}
	}
}

// The panic is the error with which the assertion itself panics.
func TestP7_1MustRecordPanics(t *testing.T) {
	for _, v := range append(othersOf(), some(), api.Command{}, message(), api.Message{}) {
		want := panicOf(func() { _ = v.(api.Record) })
		got := panicOf(func() { wire.MustRecord(v) })
		if _, is := got.(*runtime.TypeAssertionError); !is || got.Error() != want.Error() {
			t.Errorf("MustRecord(%s) panics with %v, want %v", text(v), got, want)
		}
	}
}

func TestP7_1ValuesAreNewMemory(t *testing.T) {
	calls := []func(v any) any{
		func(v any) any { x, _ := wire.Command(v); return x },
		func(v any) any { x, _ := wire.Record(v); return x },
		func(v any) any { x, _ := wire.Message(v); return x },
	}
	must := func(v any) any { return wire.MustRecord(v) }
	for _, c := range append(validCommands(), strangeCommands()...) {
		r := recordWith(func(r *api.Record) { r.Cmd = c })
		checkNewMemory(t, c, calls[0])
		checkNewMemory(t, r, calls[1])
		checkNewMemory(t, r, must)
		checkNewMemory(t, messageWith(func(m *api.Message) { m.R = r }), calls[2])
	}
	for _, v := range []any{some(), record(), message()} {
		for _, call := range calls {
			arg, untouched := withSpare(v)
			spoil(call(arg))
			if !untouched() {
				t.Errorf("a call changed %s", text(v))
			}
		}
	}
}

func checkNewMemory(t *testing.T, v any, call func(v any) any) {
	t.Helper()
	want := deep(v)
	arg, untouched := withSpare(v)
	first, second := call(arg), call(arg)
	spoil(first)
	if !untouched() || !equal(second, want) {
		t.Errorf("what was made of %s shares memory", text(v))
	}
	spoil(arg)
	if !equal(second, want) {
		t.Errorf("what was made of %s follows it", text(v))
	}
}

// recordChanges are such that each touches one field.
func recordChanges() []func(r *api.Record) {
	l := []func(r *api.Record){
		func(r *api.Record) { r.Inst.Replica++ },
		func(r *api.Record) { r.Inst.Slot++ },
		func(r *api.Record) { r.Status++ },
		func(r *api.Record) { r.Status += 1 << 32 },
		func(r *api.Record) { r.Promise.Number++ },
		func(r *api.Record) { r.Promise.Replica++ },
		func(r *api.Record) { r.Ballot.Number++ },
		func(r *api.Record) { r.Ballot.Replica++ },
		func(r *api.Record) { r.Promise, r.Ballot = r.Ballot, r.Promise },
		func(r *api.Record) { r.Seq++ },
		func(r *api.Record) { r.Seq = -r.Seq },
		func(r *api.Record) { r.Kept = !r.Kept },
		func(r *api.Record) { r.Cmd = api.Command{} },
		func(r *api.Record) { r.Cmd.Kind++ },
		func(r *api.Record) { r.Cmd.Txn.Number++ },
		func(r *api.Record) { r.Cmd.At.Time++ },
		func(r *api.Record) { r.Cmd.Shards++ },
		func(r *api.Record) { r.Cmd.Commit = true },
		func(r *api.Record) { r.Cmd.Reads = nil },
		func(r *api.Record) { r.Cmd.Reads[1].Key = "d" },
		func(r *api.Record) { r.Cmd.Reads[1].Version.Client++ },
		func(r *api.Record) { r.Cmd.Writes = r.Cmd.Writes[:1] },
		func(r *api.Record) { r.Cmd.Writes[1].Value = "2" },
	}
	for k := range 7 {
		l = append(l, func(r *api.Record) { r.Deps[k]++ }, func(r *api.Record) { r.Deps[k] = -1 })
	}
	return l
}

func TestP7_1SameRecord(t *testing.T) {
	if !wire.SameRecord(record(), record()) || !wire.SameRecord(api.Record{}, api.Record{}) {
		t.Error("SameRecord of two that are equal = false")
	}
	for i, change := range recordChanges() {
		if r := recordWith(change); wire.SameRecord(record(), r) || wire.SameRecord(r, record()) {
			t.Errorf("%d: SameRecord(%v, %v) = true", i, record(), r)
		}
	}
	all := slices.Concat(validRecords()[:25], wrongRecords()[:40])
	for _, a := range all {
		for _, b := range all {
			if got := wire.SameRecord(a, deep(b).(api.Record)); got != equalRecords(a, b) {
				t.Errorf("SameRecord(%v, %v) = %v", a, b, got)
			}
		}
	}
}

func TestP7_1SameRecordOfNilAndEmpty(t *testing.T) {
	empty := recordWith(func(r *api.Record) { r.Cmd = api.Command{Reads: []api.Read{}, Writes: []api.Write{}} })
	none := recordWith(func(r *api.Record) { r.Cmd = api.Command{} })
	if !wire.SameRecord(empty, none) || !wire.SameRecord(none, empty) {
		t.Error("nil and empty lists are not the same")
	}
}

func TestP7_1ArgumentsStayAsTheyAre(t *testing.T) {
	a, untouchedA := withSpare(record())
	b, untouchedB := withSpare(message())
	r, m := a.(api.Record), b.(api.Message)
	wire.RightRecord(r)
	wire.RightMessage(m)
	wire.SameRecord(r, m.R)
	wire.SameRecord(m.R, r)
	if !untouchedA() || !untouchedB() {
		t.Error("an argument was changed")
	}
}
