package accept_test

import (
	"math"
	"slices"
	"testing"

	"althing/accept"
	"althing/api"
	"althing/wire"
)

const (
	top  = 1 << 40 // the greatest number
	last = 1 << 20 // the greatest slot
	self = 2       // the replica that is asked
	from = 4       // the one that asks
)

// zero is the ballot with which an instance begins; low, mid and high are behind it, in this order. Neither the numbers alone nor the replicas alone tell the order.
var (
	zero = api.Ballot{}
	low  = api.Ballot{Number: 1, Replica: 5}
	mid  = api.Ballot{Number: 3, Replica: 1}
	high = api.Ballot{Number: 3, Replica: 4}
)

// here is the instance of most requests, there another one.
var (
	here  = api.Instance{Replica: 1, Slot: 3}
	there = api.Instance{Replica: 5, Slot: 7}
)

func ballots() []api.Ballot {
	return []api.Ballot{zero, low, mid, high}
}

// notReplicas are numbers of replicas that no shard has.
func notReplicas() []int {
	return []int{math.MinInt, -1 << 32, -7, -1, 7, 8, 1 << 32, 1<<32 + 1, math.MaxInt}
}

// validate is a Validate with this name, which reads and writes a key.
func validate(number int, key string) api.Command {
	at := api.Stamp{Time: number + 1, Client: 1}
	return api.Command{
		Kind: api.Validate, Txn: api.Txn{Client: 1, Number: number}, At: at, Shards: 5,
		Reads:  []api.Read{{Key: key, Version: api.Stamp{Time: number, Client: 2}}},
		Writes: []api.Write{{Key: key, Value: "v"}},
	}
}

func decide(number int, key string) api.Command {
	c := validate(number, key)
	c.Kind, c.Commit = api.Decide, true
	return c
}

// record is a valid one; those with other numbers have other commands, Seq and Deps. All of them, but those with key b, interfere.
func record(number int, i api.Instance, status int, promise, ballot api.Ballot) api.Record {
	r := api.Record{Inst: i, Status: status, Promise: promise}
	if status != api.None {
		r.Ballot, r.Cmd, r.Seq, r.Deps = ballot, validate(number, "a"), number, api.Deps{number, 0, 2}
	}
	return r
}

// of is the same record with another command.
func of(r api.Record, c api.Command) api.Record {
	r.Cmd = c
	return r
}

// kept is the same record, Kept.
func kept(r api.Record) api.Record {
	r.Kept = true
	return r
}

// message is a request about an instance; number is that of the record that it brings.
func message(kind int, b api.Ballot, number int, i api.Instance) api.Message {
	m := api.Message{Kind: kind, From: from, To: self, Ballot: b, R: api.Record{Inst: i}}
	switch kind {
	case api.MsgPreAccept:
		m.R = record(number, i, api.PreAccept, b, b)
	case api.MsgAccept:
		m.R = record(number, i, api.Accepted, b, b)
	case api.MsgCommit:
		m.R = record(number, i, api.Committed, b, b)
	}
	return m
}

func preAccept(b api.Ballot, number int) api.Message {
	return message(api.MsgPreAccept, b, number, here)
}

func put(b api.Ballot, number int) api.Message {
	return message(api.MsgAccept, b, number, here)
}

func commit(b api.Ballot, number int) api.Message {
	return message(api.MsgCommit, b, number, here)
}

func prepare(b api.Ballot) api.Message {
	return message(api.MsgPrepare, b, 0, here)
}

// with is a message of which something is changed.
func with(m api.Message, change func(m *api.Message)) api.Message {
	change(&m)
	return m
}

// requests are about one instance: of all kinds and ballots, and also with what does not count: a Promise above the Ballot, Kept, a record that a MsgPrepare brings, or the message's own ballot in a MsgCommit.
func requests(i api.Instance) []api.Message {
	var l []api.Message
	for _, b := range ballots() {
		pre, acc, com := message(api.MsgPreAccept, b, 6, i), message(api.MsgAccept, b, 7, i), message(api.MsgCommit, b, 8, i)
		l = append(l, pre, acc, com, message(api.MsgPrepare, b, 0, i),
			with(pre, func(m *api.Message) { m.R.Promise, m.R.Kept = api.Ballot{Number: 9}, true }),
			with(pre, func(m *api.Message) { m.R.Cmd, m.R.Seq, m.R.Deps = decide(9, "b"), top, api.Deps{last, 9, last} }),
			with(pre, func(m *api.Message) { m.R.Cmd, m.From = api.Command{}, self }),
			with(acc, func(m *api.Message) { m.R.Promise, m.From = api.Ballot{Number: 9}, 0 }),
			with(com, func(m *api.Message) { m.R.Promise = api.Ballot{Number: 9} }),
			with(com, func(m *api.Message) { m.Ballot = high }),
			with(com, func(m *api.Message) { m.Ballot = zero }),
			with(message(api.MsgPrepare, b, 0, i), func(m *api.Message) { m.R = kept(record(9, i, api.PreAccept, mid, low)) }),
			with(message(api.MsgPrepare, b, 0, i), func(m *api.Message) { m.R = record(9, i, api.Committed, high, mid) }),
		)
	}
	return l
}

// states are what can be known of an instance.
func states(i api.Instance) []api.Record {
	var l []api.Record
	for _, promise := range ballots() {
		l = append(l, record(0, i, api.None, promise, zero))
		for _, b := range ballots() {
			if less(promise, b) {
				continue
			}
			for status := api.PreAccept; status <= api.Committed; status++ {
				l = append(l, record(3, i, status, promise, b))
			}
			l = append(l, kept(of(record(4, i, api.PreAccept, promise, b), api.Command{})))
		}
	}
	return l
}

// surroundings are views of other instances: without any, without one that interferes, with some, with a Seq and a slot at their ends.
func surroundings() [][]api.Record {
	at := func(replica, slot int) api.Instance { return api.Instance{Replica: replica, Slot: slot} }
	return [][]api.Record{
		nil,
		{of(record(2, there, api.Committed, mid, mid), validate(2, "b")), record(0, at(0, 8), api.None, low, zero)},
		{record(2, there, api.Accepted, mid, mid), of(record(5, at(1, 4), api.Committed, zero, zero), decide(5, "a")), record(12, at(1, 2), api.PreAccept, high, low)},
		{func() api.Record { r := record(2, at(6, last), api.Committed, mid, mid); r.Seq = top; return r }()},
	}
}

// views are all states of here among all surroundings, and here unknown.
func views() [][]api.Record {
	var all [][]api.Record
	for _, l := range surroundings() {
		all = append(all, l)
		for _, r := range states(here) {
			all = append(all, slices.Concat(l, []api.Record{r}), slices.Concat([]api.Record{r}, l))
		}
	}
	return append(all,
		[]api.Record{record(3, here, api.Committed, mid, mid), record(5, here, api.PreAccept, high, low)},
		[]api.Record{record(3, here, api.PreAccept, high, mid), record(0, here, api.None, zero, zero)},
	)
}

// less tells by hand whether a ballot is before another one.
func less(a, b api.Ballot) bool {
	return a.Number < b.Number || a.Number == b.Number && a.Replica < b.Replica
}

// know is told by going through all records.
func know(l []api.Record, i api.Instance) api.Record {
	known := api.Record{Inst: i}
	for _, r := range l {
		if r.Inst.Replica == i.Replica && r.Inst.Slot == i.Slot {
			known = r
		}
	}
	return known
}

// attrs is what layer 11 tells, worked out by hand.
func attrs(l []api.Record, i api.Instance, c api.Command, seq int, d api.Deps) (int, api.Deps) {
	for k, r := range l {
		isLast := !slices.ContainsFunc(l[k+1:], func(later api.Record) bool { return later.Inst == r.Inst })
		if !isLast || r.Inst == i || r.Status < 1 || !interfere(r.Cmd, c) {
			continue
		}
		if r.Seq >= top && seq < top {
			seq = top
		} else if r.Seq < top && seq <= r.Seq {
			seq = r.Seq + 1
		}
		if at := r.Inst.Replica; at >= 0 && at < len(d) && d[at] < r.Inst.Slot {
			d[at] = r.Inst.Slot
		}
	}
	return seq, d
}

func interfere(a, b api.Command) bool {
	if a.Kind == api.Noop || b.Kind == api.Noop {
		return false
	}
	return a.Txn == b.Txn || slices.ContainsFunc(keysOf(a), func(key string) bool { return slices.Contains(keysOf(b), key) })
}

func keysOf(c api.Command) []string {
	var l []string
	for _, r := range c.Reads {
		l = append(l, r.Key)
	}
	for _, w := range c.Writes {
		l = append(l, w.Key)
	}
	return l
}

// handle is what the document says of a request: no other message is asked about.
func handle(l []api.Record, m api.Message) (accept.Step, api.Errno) {
	k := know(l, m.R.Inst)
	if m.Kind == api.MsgCommit {
		if k.Status == api.Committed {
			return accept.Step{}, api.OK
		}
		stored := m.R
		stored.Promise = m.R.Ballot
		if less(m.R.Ballot, k.Promise) {
			stored.Promise = k.Promise
		}
		return accept.Step{R: stored, New: true}, api.OK
	}
	if k.Status == api.Committed {
		return reply(m, api.MsgCommit, k.Ballot, k), api.OK
	}
	if less(m.Ballot, k.Promise) {
		return reply(m, api.MsgNack, k.Promise, api.Record{Inst: m.R.Inst}), api.OK
	}
	switch m.Kind {
	case api.MsgPreAccept:
		return handlePreAccept(l, k, m)
	case api.MsgAccept:
		if k.Status == api.Accepted && k.Ballot == m.Ballot {
			return reply(m, api.MsgAcceptOK, m.Ballot, k), api.OK
		}
		return stored(m, api.MsgAcceptOK, m.R), api.OK
	}
	if k.Promise == m.Ballot {
		return reply(m, api.MsgPrepareOK, m.Ballot, k), api.OK
	}
	return stored(m, api.MsgPrepareOK, k), api.OK
}

func handlePreAccept(l []api.Record, k api.Record, m api.Message) (accept.Step, api.Errno) {
	if k.Ballot == m.Ballot && k.Status == api.PreAccept {
		return reply(m, api.MsgPreOK, m.Ballot, k), api.OK
	}
	if k.Ballot == m.Ballot && k.Status == api.Accepted {
		return accept.Step{}, api.ErrState
	}
	r := m.R
	r.Seq, r.Deps = attrs(l, m.R.Inst, m.R.Cmd, m.R.Seq, m.R.Deps)
	r.Kept = r.Seq == m.R.Seq && r.Deps == m.R.Deps
	return stored(m, api.MsgPreOK, r), api.OK
}

func reply(m api.Message, kind int, b api.Ballot, r api.Record) accept.Step {
	return accept.Step{Has: true, Reply: api.Message{Kind: kind, From: m.To, To: m.From, Ballot: b, R: r}}
}

func stored(m api.Message, kind int, r api.Record) accept.Step {
	r.Promise = m.Ballot
	s := reply(m, kind, m.Ballot, r)
	s.New, s.R = true, r
	return s
}

func sameMessage(a, b api.Message) bool {
	return a.Kind == b.Kind && a.From == b.From && a.To == b.To && a.Ballot == b.Ballot && wire.SameRecord(a.R, b.R)
}

func sameStep(a, b accept.Step) bool {
	return a.New == b.New && a.Has == b.Has && wire.SameRecord(a.R, b.R) && sameMessage(a.Reply, b.Reply)
}

func checkRecord(t *testing.T, what string, got, want api.Record) {
	t.Helper()
	if !wire.SameRecord(got, want) {
		t.Errorf("%s = %v, want %v", what, got, want)
	}
}

func checkStep(t *testing.T, what string, got accept.Step, err api.Errno, want accept.Step, wanted api.Errno) {
	t.Helper()
	if err != wanted || !sameStep(got, want) {
		t.Errorf("%s = %v, %d, want %v, %d", what, got, err, want, wanted)
	}
}

// checkHandle asks, and says where the answer is not the one that is wanted.
func checkHandle(t *testing.T, what string, l []api.Record, m api.Message, want accept.Step) {
	t.Helper()
	got, err := accept.Handle(l, m.To, m)
	checkStep(t, what, got, err, want, api.OK)
}

// checkModel asks, says where the answer is not as the model has it, and returns it.
func checkModel(t *testing.T, l []api.Record, m api.Message) (accept.Step, api.Errno) {
	t.Helper()
	got, err := accept.Handle(l, m.To, m)
	want, wanted := handle(l, m)
	if err != wanted || !sameStep(got, want) {
		t.Errorf("Handle(%v, %v) = %v, %d, want %v, %d", l, m, got, err, want, wanted)
	}
	return got, err
}
