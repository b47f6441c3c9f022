package wire_test

import (
	"math"
	"slices"
	"strings"

	"althing/api"
	"althing/command"
)

const (
	top  = 1 << 40 // the greatest number
	slot = 1 << 20 // the greatest slot
)

// some is a Validate that reads a and c and writes b and c, at 5 of client 1.
func some() api.Command {
	return api.Command{
		Kind:   api.Validate,
		Txn:    api.Txn{Client: 1, Number: 200},
		At:     api.Stamp{Time: 5, Client: 1},
		Shards: 3,
		Reads:  []api.Read{{Key: "a", Version: api.Stamp{Time: 4, Client: 2}}, {Key: "c"}},
		Writes: []api.Write{{Key: "b", Value: "xy"}, {Key: "c"}},
	}
}

// record is one of some that is pre-accepted as it was proposed; each of its fields has another value.
func record() api.Record {
	return api.Record{
		Inst:    api.Instance{Replica: 1, Slot: 300},
		Status:  api.PreAccept,
		Promise: api.Ballot{Number: 9, Replica: 4},
		Ballot:  api.Ballot{Number: 8, Replica: 5},
		Cmd:     some(),
		Seq:     7,
		Deps:    api.Deps{10, 11, 12, 13, 14, 15, 16},
		Kept:    true,
	}
}

func message() api.Message {
	return api.Message{Kind: api.MsgNack, From: 2, To: 3, Ballot: api.Ballot{Number: 400, Replica: 6}, R: record()}
}

func someWith(change func(c *api.Command)) api.Command {
	c := some()
	change(&c)
	return c
}

func recordWith(change func(r *api.Record)) api.Record {
	r := record()
	change(&r)
	return r
}

func messageWith(change func(m *api.Message)) api.Message {
	m := message()
	change(&m)
	return m
}

// blank is a record of which nothing but a promise is known.
func blank() api.Record {
	return api.Record{Inst: api.Instance{Replica: 1, Slot: 300}, Promise: api.Ballot{Number: 9, Replica: 4}}
}

func blankWith(change func(r *api.Record)) api.Record {
	r := blank()
	change(&r)
	return r
}

// letters are n keys that strictly increase.
func letters(n int) []string {
	var l []string
	for k := range n {
		l = append(l, string(rune(97+k)))
	}
	return l
}

func reads(l ...string) []api.Read {
	var out []api.Read
	for k, key := range l {
		out = append(out, api.Read{Key: key, Version: api.Stamp{Time: k % 5, Client: k % 4}})
	}
	return out
}

func writes(l ...string) []api.Write {
	var out []api.Write
	for k, key := range l {
		out = append(out, api.Write{Key: key, Value: strings.Repeat("v", k%9)})
	}
	return out
}

// notReplicas are numbers of replicas that no shard has.
func notReplicas() []int {
	return []int{math.MinInt, -1 << 32, -7, -1, 7, 8, 127, 128, 256, 1 << 32, 1<<32 + 1, top, math.MaxInt}
}

// edges are numbers that can be encoded, on both sides of where they take one byte more.
func edges() []int {
	l := []int{0, 1, 2, 63, 64, 100, 126, 127, 128, 129, 255, 256, 300, top - 1, top}
	for bits := 14; bits <= 35; bits += 7 {
		l = append(l, 1<<bits-2, 1<<bits-1, 1<<bits, 1<<bits+1)
	}
	return l
}

// notNumbers can't be encoded.
func notNumbers() []int {
	return []int{math.MinInt, -top, -1 << 32, -128, -1, top + 1, top + 2, top + 128, 1 << 41, 1 << 42, 1<<42 + 1, 1 << 62, math.MaxInt}
}

func validCommands() []api.Command {
	l := []api.Command{{}}
	for _, c := range []api.Command{
		some(),
		someWith(func(c *api.Command) { c.Reads = nil }),
		someWith(func(c *api.Command) { c.Writes = nil }),
		someWith(func(c *api.Command) { c.Reads, c.Writes = reads(letters(8)...), writes(letters(8)...) }),
		someWith(func(c *api.Command) { c.Reads, c.Writes = reads(letters(7)...), nil }),
		someWith(func(c *api.Command) {
			c.Reads, c.Writes = reads("\x00", "\x00\x01\x02\x80\xff\xfe\x7f", "世", "\xff\xfe"), nil
		}),
		someWith(func(c *api.Command) { c.Reads, c.Writes = nil, []api.Write{{Key: "abcdefgh", Value: "12345678"}} }),
		someWith(func(c *api.Command) { c.Reads, c.Writes = nil, []api.Write{{Key: "\x80", Value: "\x00\xff\x80\x01"}} }),
		someWith(func(c *api.Command) { c.Reads, c.Writes = nil, []api.Write{{Key: "a", Value: ""}} }),
		someWith(func(c *api.Command) { c.Txn, c.At = api.Txn{Client: 3, Number: top}, api.Stamp{Time: top, Client: 3} }),
		someWith(func(c *api.Command) { c.At.Time = 6; c.Reads[0].Version = api.Stamp{Time: 6} }),
		someWith(func(c *api.Command) { c.At.Time = top; c.Reads[1].Version = api.Stamp{Time: top - 1, Client: 3} }),
		someWith(func(c *api.Command) { c.Shards = 1 }),
		someWith(func(c *api.Command) { c.Shards = 15 }),
	} {
		l = append(l, c)
		c.Kind = api.Decide
		l = append(l, c)
		c.Commit = true
		l = append(l, c)
	}
	return l
}

// wrongCommands are not valid, but can be encoded.
func wrongCommands() []api.Command {
	return []api.Command{
		{Commit: true},
		{Shards: 1},
		{Txn: api.Txn{Client: 1}},
		{At: api.Stamp{Time: 1}},
		{Reads: reads("a")},
		{Writes: writes("a")},
		{Kind: api.Validate},
		{Kind: api.Decide},
		{Kind: 3},
		{Kind: top},
		someWith(func(c *api.Command) { c.Kind = api.Noop }),
		someWith(func(c *api.Command) { c.Kind = 3 }),
		someWith(func(c *api.Command) { c.Kind = 257 }),
		someWith(func(c *api.Command) { c.Txn.Number = 0 }),
		someWith(func(c *api.Command) { c.Txn.Client, c.At.Client = 4, 4 }),
		someWith(func(c *api.Command) { c.At.Client = 2 }),
		someWith(func(c *api.Command) { c.At.Time = 0; c.Reads = nil }),
		someWith(func(c *api.Command) { c.Shards = 0 }),
		someWith(func(c *api.Command) { c.Shards = 16 }),
		someWith(func(c *api.Command) { c.Shards = top }),
		someWith(func(c *api.Command) { c.Commit = true }),
		someWith(func(c *api.Command) { c.Reads, c.Writes = nil, nil }),
		someWith(func(c *api.Command) { c.Reads[0].Key = "" }),
		someWith(func(c *api.Command) { c.Reads[0].Key = "c" }),
		someWith(func(c *api.Command) { c.Reads[0].Key = "d" }),
		someWith(func(c *api.Command) { c.Reads[0].Version = c.At }),
		someWith(func(c *api.Command) { c.Reads[1].Version.Client = 4 }),
		someWith(func(c *api.Command) { c.Writes[0].Key = "" }),
		someWith(func(c *api.Command) { c.Writes[1].Key = "b" }),
		someWith(func(c *api.Command) { c.Writes[1].Key = "a" }),
	}
}

// strangeCommands are not valid, and can't be encoded.
func strangeCommands() []api.Command {
	l := []api.Command{
		someWith(func(c *api.Command) { c.Reads = reads(letters(9)...) }),
		someWith(func(c *api.Command) { c.Writes = writes(letters(9)...) }),
		someWith(func(c *api.Command) { c.Reads = reads(letters(1000)...) }),
		someWith(func(c *api.Command) { c.Reads[0].Key = "abcdefghi" }),
		someWith(func(c *api.Command) { c.Writes[0].Key = "abcdefghi" }),
		someWith(func(c *api.Command) { c.Writes[0].Value = "123456789" }),
		someWith(func(c *api.Command) { c.Writes[1].Value = strings.Repeat("1", 1<<16) }),
	}
	for _, n := range notNumbers() {
		l = append(l,
			someWith(func(c *api.Command) { c.Kind = n }),
			someWith(func(c *api.Command) { c.Txn.Number = n }),
			someWith(func(c *api.Command) { c.Txn.Client, c.At.Client = n, n }),
			someWith(func(c *api.Command) { c.At.Time = n }),
			someWith(func(c *api.Command) { c.Shards = n }),
			someWith(func(c *api.Command) { c.Reads[0].Version.Time = n }),
			someWith(func(c *api.Command) { c.Reads[0].Version.Client = n }))
	}
	return l
}

func validRecords() []api.Record {
	l := []api.Record{
		record(),
		blank(),
		{Inst: api.Instance{Slot: 1}},
		blankWith(func(r *api.Record) { r.Inst, r.Promise = api.Instance{Replica: 6, Slot: slot}, api.Ballot{} }),
		blankWith(func(r *api.Record) { r.Promise = api.Ballot{Number: top, Replica: 6} }),
		recordWith(func(r *api.Record) { r.Promise, r.Ballot = api.Ballot{}, api.Ballot{} }),
		recordWith(func(r *api.Record) { r.Ballot = api.Ballot{} }),
		recordWith(func(r *api.Record) { r.Ballot = r.Promise }),
		recordWith(func(r *api.Record) { r.Ballot = api.Ballot{Number: 9, Replica: 3} }),
		recordWith(func(r *api.Record) { r.Ballot = api.Ballot{Number: 8, Replica: 6} }),
		recordWith(func(r *api.Record) {
			r.Promise, r.Ballot = api.Ballot{Number: top, Replica: 6}, api.Ballot{Number: top, Replica: 6}
		}),
		recordWith(func(r *api.Record) { r.Seq, r.Deps, r.Cmd, r.Kept = 1, api.Deps{}, api.Command{}, false }),
		recordWith(func(r *api.Record) { r.Deps = api.Deps{slot, slot, slot, slot, slot, slot, slot} }),
		recordWith(func(r *api.Record) { r.Deps = api.Deps{0, 1, 127, 128, 1<<14 - 1, 1 << 14, slot - 1} }),
	}
	for _, kept := range []bool{false, true} {
		l = append(l, recordWith(func(r *api.Record) { r.Kept = kept }))
	}
	for _, status := range []int{api.Accepted, api.Committed} {
		l = append(l, recordWith(func(r *api.Record) { r.Status, r.Kept = status, false }))
		l = append(l, recordWith(func(r *api.Record) { r.Status, r.Kept, r.Cmd, r.Deps = status, false, api.Command{}, api.Deps{} }))
	}
	for _, n := range edges() {
		if n > 0 {
			l = append(l, recordWith(func(r *api.Record) { r.Seq = n }))
		}
		if n > 0 && n <= slot {
			l = append(l, recordWith(func(r *api.Record) { r.Inst.Slot = n }))
		}
		l = append(l, recordWith(func(r *api.Record) { r.Promise.Number, r.Ballot.Number, r.Ballot.Replica = n, n, 4 }))
	}
	for k := range 7 {
		l = append(l, recordWith(func(r *api.Record) { r.Inst.Replica = k }))
		l = append(l, recordWith(func(r *api.Record) { r.Promise.Replica = k }))
		l = append(l, recordWith(func(r *api.Record) { r.Ballot.Replica = k }))
		l = append(l, recordWith(func(r *api.Record) { r.Deps[k] = slot - k }))
	}
	for _, c := range validCommands() {
		l = append(l, recordWith(func(r *api.Record) { r.Cmd = c }))
	}
	return l
}

// wrongRecords are not valid, but can be encoded.
func wrongRecords() []api.Record {
	l := []api.Record{
		{},
		recordWith(func(r *api.Record) { r.Inst = api.Instance{} }),
		recordWith(func(r *api.Record) { r.Inst.Replica = 7 }),
		recordWith(func(r *api.Record) { r.Inst.Slot = 0 }),
		recordWith(func(r *api.Record) { r.Inst.Slot = slot + 1 }),
		blankWith(func(r *api.Record) { r.Inst.Slot = 0 }),
		blankWith(func(r *api.Record) { r.Inst.Replica = 7 }),
		recordWith(func(r *api.Record) { r.Status = 4 }),
		recordWith(func(r *api.Record) { r.Status, r.Kept = 4, false }),
		recordWith(func(r *api.Record) { r.Status, r.Kept = 257, false }),
		blankWith(func(r *api.Record) { r.Status = 4 }),
		recordWith(func(r *api.Record) { r.Promise.Replica = 7 }),
		blankWith(func(r *api.Record) { r.Promise.Replica = 7 }),
		recordWith(func(r *api.Record) { r.Ballot.Replica = 7 }),
		recordWith(func(r *api.Record) { r.Ballot = api.Ballot{Number: 9, Replica: 5} }),
		recordWith(func(r *api.Record) { r.Ballot = api.Ballot{Number: 10} }),
		recordWith(func(r *api.Record) { r.Promise, r.Ballot = api.Ballot{}, api.Ballot{Replica: 1} }),
		recordWith(func(r *api.Record) { r.Promise = api.Ballot{} }),
		recordWith(func(r *api.Record) { r.Seq = 0 }),
		recordWith(func(r *api.Record) { r.Seq, r.Kept = 0, false }),
		recordWith(func(r *api.Record) { r.Seq, r.Kept, r.Status = 0, false, api.Accepted }),
		recordWith(func(r *api.Record) { r.Seq, r.Kept, r.Status = 0, false, api.Committed }),
		recordWith(func(r *api.Record) { r.Status = api.None }),
		recordWith(func(r *api.Record) { r.Status = api.Accepted }),
		recordWith(func(r *api.Record) { r.Status = api.Committed }),
		blankWith(func(r *api.Record) { r.Ballot.Number = 1 }),
		blankWith(func(r *api.Record) { r.Ballot.Replica = 1 }),
		blankWith(func(r *api.Record) { r.Ballot = r.Promise }),
		blankWith(func(r *api.Record) { r.Cmd = some() }),
		blankWith(func(r *api.Record) { r.Seq = 1 }),
		blankWith(func(r *api.Record) { r.Kept = true }),
	}
	for status := api.PreAccept; status <= api.Committed; status++ {
		l = append(l, blankWith(func(r *api.Record) { r.Status = status }))
	}
	for k := range 7 {
		l = append(l, recordWith(func(r *api.Record) { r.Deps[k] = slot + 1 }))
		l = append(l, recordWith(func(r *api.Record) { r.Deps[k] = top }))
		l = append(l, blankWith(func(r *api.Record) { r.Deps[k] = 1 }))
	}
	for _, c := range wrongCommands() {
		l = append(l, recordWith(func(r *api.Record) { r.Cmd = c }))
		l = append(l, recordWith(func(r *api.Record) { r.Cmd, r.Status, r.Kept = c, api.Committed, false }))
		l = append(l, blankWith(func(r *api.Record) { r.Cmd = c }))
	}
	return l
}

// strangeRecords are not valid, and can't be encoded.
func strangeRecords() []api.Record {
	var l []api.Record
	for _, n := range notNumbers() {
		l = append(l,
			recordWith(func(r *api.Record) { r.Inst.Replica = n }),
			recordWith(func(r *api.Record) { r.Inst.Slot = n }),
			recordWith(func(r *api.Record) { r.Status, r.Kept = n, false }),
			recordWith(func(r *api.Record) { r.Promise.Number = n }),
			recordWith(func(r *api.Record) { r.Promise.Replica = n }),
			recordWith(func(r *api.Record) { r.Ballot.Number = n }),
			recordWith(func(r *api.Record) { r.Ballot.Replica = n }),
			recordWith(func(r *api.Record) { r.Promise.Number, r.Ballot.Number, r.Ballot.Replica = n, n, 0 }),
			recordWith(func(r *api.Record) { r.Seq = n }),
			recordWith(func(r *api.Record) { r.Seq, r.Status, r.Kept = n, api.Committed, false }),
			blankWith(func(r *api.Record) { r.Status = n }),
			blankWith(func(r *api.Record) { r.Promise.Number = n }),
			blankWith(func(r *api.Record) { r.Seq = n }))
		for k := range 7 {
			l = append(l, recordWith(func(r *api.Record) { r.Deps[k] = n }))
		}
	}
	for _, c := range strangeCommands() {
		l = append(l, recordWith(func(r *api.Record) { r.Cmd = c }))
	}
	return l
}

func validMessages() []api.Message {
	var l []api.Message
	for kind := 1; kind <= 8; kind++ {
		l = append(l, messageWith(func(m *api.Message) { m.Kind = kind }))
	}
	for from := range 7 {
		for to := range 7 {
			l = append(l, messageWith(func(m *api.Message) { m.From, m.To, m.Ballot.Replica = from, to, 6-from }))
		}
	}
	for _, n := range edges() {
		l = append(l, messageWith(func(m *api.Message) { m.Ballot.Number = n }))
	}
	for _, r := range validRecords() {
		l = append(l, messageWith(func(m *api.Message) { m.R = r }))
	}
	return append(l, api.Message{Kind: 1, R: api.Record{Inst: api.Instance{Slot: 1}}})
}

// wrongMessages are not valid, but can be encoded.
func wrongMessages() []api.Message {
	l := []api.Message{
		{},
		{Kind: 1},
		{R: record()},
		messageWith(func(m *api.Message) { m.Kind = 0 }),
		messageWith(func(m *api.Message) { m.Kind = 9 }),
		messageWith(func(m *api.Message) { m.Kind = 257 }),
		messageWith(func(m *api.Message) { m.From = 7 }),
		messageWith(func(m *api.Message) { m.From = 256 }),
		messageWith(func(m *api.Message) { m.To = 7 }),
		messageWith(func(m *api.Message) { m.To = top }),
		messageWith(func(m *api.Message) { m.Ballot.Replica = 7 }),
	}
	for _, r := range wrongRecords() {
		l = append(l, messageWith(func(m *api.Message) { m.R = r }))
	}
	return l
}

// strangeMessages are not valid, and can't be encoded.
func strangeMessages() []api.Message {
	var l []api.Message
	for _, n := range notNumbers() {
		l = append(l,
			messageWith(func(m *api.Message) { m.Kind = n }),
			messageWith(func(m *api.Message) { m.From = n }),
			messageWith(func(m *api.Message) { m.To = n }),
			messageWith(func(m *api.Message) { m.Ballot.Number = n }),
			messageWith(func(m *api.Message) { m.Ballot.Replica = n }))
	}
	for _, r := range strangeRecords() {
		l = append(l, messageWith(func(m *api.Message) { m.R = r }))
	}
	return l
}

func values(c []api.Command, r []api.Record, m []api.Message) []any {
	var l []any
	for _, x := range c {
		l = append(l, x)
	}
	for _, x := range r {
		l = append(l, x)
	}
	for _, x := range m {
		l = append(l, x)
	}
	return l
}

func validValues() []any {
	return values(validCommands(), validRecords(), validMessages())
}

func wrongValues() []any {
	return values(wrongCommands(), wrongRecords(), wrongMessages())
}

func strangeValues() []any {
	return values(strangeCommands(), strangeRecords(), strangeMessages())
}

// commandOf is where the command of a value is; v points to one of the three types.
func commandOf(v any) *api.Command {
	switch x := v.(type) {
	case *api.Command:
		return x
	case *api.Record:
		return &x.Cmd
	case *api.Message:
		return &x.R.Cmd
	}
	return nil
}

// withCommand is v with another command in it, or v itself where it is none of the three types.
func withCommand(v any, change func(c *api.Command)) any {
	switch x := v.(type) {
	case api.Command:
		change(commandOf(&x))
		return x
	case api.Record:
		change(commandOf(&x))
		return x
	case api.Message:
		change(commandOf(&x))
		return x
	}
	return v
}

// listsOf are the reads and writes of a value, where they lie.
func listsOf(v any) (r []api.Read, w []api.Write) {
	withCommand(v, func(c *api.Command) { r, w = c.Reads, c.Writes })
	return r, w
}

// deep is v with lists in other memory, made by hand; empty lists are nil.
func deep(v any) any {
	return withCommand(v, func(c *api.Command) {
		c.Reads, c.Writes = append([]api.Read(nil), c.Reads...), append([]api.Write(nil), c.Writes...)
	})
}

// equal tells whether two values have the same type, and the same in each field; it is told by hand.
func equal(a, b any) bool {
	switch x := a.(type) {
	case nil:
		return b == nil
	case api.Command:
		y, is := b.(api.Command)
		return is && equalCommands(x, y)
	case api.Record:
		y, is := b.(api.Record)
		return is && equalRecords(x, y)
	case api.Message:
		y, is := b.(api.Message)
		return is && x.Kind == y.Kind && x.From == y.From && x.To == y.To && x.Ballot == y.Ballot && equalRecords(x.R, y.R)
	}
	return false
}

func equalCommands(a, b api.Command) bool {
	return a.Kind == b.Kind && a.Txn == b.Txn && a.At == b.At && a.Shards == b.Shards && a.Commit == b.Commit &&
		slices.Equal(a.Reads, b.Reads) && slices.Equal(a.Writes, b.Writes)
}

func equalRecords(a, b api.Record) bool {
	return a.Inst == b.Inst && a.Status == b.Status && a.Promise == b.Promise && a.Ballot == b.Ballot &&
		equalCommands(a.Cmd, b.Cmd) && a.Seq == b.Seq && a.Deps == b.Deps && a.Kept == b.Kept
}

// withSpare is v with other reads and writes in the spare capacity of its lists, and a function that tells whether the lists and those are as they were.
func withSpare(v any) (any, func() bool) {
	r, w := listsOf(v)
	allReads, allWrites := slices.Concat(r, reads("y", "z")), slices.Concat(w, writes("y", "z"))
	firstReads, firstWrites := slices.Clone(allReads), slices.Clone(allWrites)
	isSame := func() bool {
		return slices.Equal(allReads, firstReads) && slices.Equal(allWrites, firstWrites)
	}
	return withCommand(v, func(c *api.Command) {
		c.Reads, c.Writes = allReads[:len(r)], allWrites[:len(w)]
	}), isSame
}

// spoil overwrites the lists of v, and their spare capacity.
func spoil(v any) {
	r, w := listsOf(v)
	for k := range r[:cap(r)] {
		r[:cap(r)][k] = api.Read{Key: "spoilt", Version: api.Stamp{Time: -7, Client: 9}}
	}
	for k := range w[:cap(w)] {
		w[:cap(w)][k] = api.Write{Key: "spoilt", Value: "other"}
	}
}

// spoilBytes overwrites b and its spare capacity.
func spoilBytes(b []byte) {
	b = b[:cap(b)]
	for k := range b {
		b[k] = ^b[k]
	}
}

// bytesWithSpare is b with other bytes in its spare capacity, and a function that tells whether b and those are as they were.
func bytesWithSpare(b []byte) ([]byte, func() bool) {
	all := slices.Concat(b, []byte{0, 1, 2, 3, 0, 1, 0, 1, 0, 0, 0, 0, 0, 0, 0, 0, 255})
	before := slices.Clone(all)
	return all[:len(b)], func() bool { return slices.Equal(all, before) }
}

// otherCommand has all fields of api.Command, but is of another type.
type otherCommand api.Command

// otherRecord has an api.Record in it, and its fields are promoted, but it is none.
type otherRecord struct{ api.Record }

// othersOf are values of none of the three types.
func othersOf() []any {
	c, r, m := some(), record(), message()
	var noCommand *api.Command
	var noRecord *api.Record
	var noMessage *api.Message
	return []any{
		nil, 0, 1, 2, 3, -1, 2.5, true, "x", "", byte(1), 'a', struct{}{}, api.OK, api.ErrArg,
		&c, &r, &m, noCommand, noRecord, noMessage, new(any), any(nil),
		[]byte{1, 0, 0, 0, 0, 0, 0, 0, 0, 0}, []api.Command{c}, []api.Record{r}, []api.Message{m}, []any{c}, [1]api.Record{r},
		map[int]api.Record{0: r}, func() api.Record { return r }, make(chan api.Record),
		otherCommand(c), otherRecord{r}, &otherRecord{r}, struct{ R api.Record }{r},
		api.Instance{Replica: 1, Slot: 1}, api.Ballot{}, api.Stamp{}, api.Txn{}, api.Deps{}, api.Read{}, api.Write{},
		command.Right, c.Reads, c.Writes,
	}
}
