package net_test

import (
	"math"
	"slices"
	"strconv"
	"testing"

	"althing/api"
	"althing/net"
)

const (
	most   = 256     // the greatest capacity
	slot   = 1 << 20 // the greatest slot
	number = 1 << 40 // the greatest number
)

// message is one that differs from those with other numbers, with lists in it.
func message(k int) api.Message {
	return between(k%7, k/7%7, k)
}

// between is message k from one replica to another one; each of its fields has another value.
func between(from, to, k int) api.Message {
	return api.Message{
		Kind:   api.MsgPreOK,
		From:   from,
		To:     to,
		Ballot: api.Ballot{Number: k + 400, Replica: 6},
		R: api.Record{
			Inst:    api.Instance{Replica: 1, Slot: k + 300},
			Status:  api.PreAccept,
			Promise: api.Ballot{Number: k + 9, Replica: 4},
			Ballot:  api.Ballot{Number: k + 8, Replica: 5},
			Cmd: api.Command{
				Kind:   api.Validate,
				Txn:    api.Txn{Client: 1, Number: k + 200},
				At:     api.Stamp{Time: k + 5, Client: 1},
				Shards: 3,
				Reads:  []api.Read{{Key: "a", Version: api.Stamp{Time: k + 4, Client: 2}}, {Key: "c"}},
				Writes: []api.Write{{Key: "b", Value: "x" + strconv.Itoa(k%1000)}, {Key: "c"}, {Key: "d", Value: "z"}},
			},
			Seq:  k + 7,
			Deps: api.Deps{k + 10, 11, 12, 13, 14, 15, 16},
			Kept: true,
		},
	}
}

func messages(n int) []api.Message {
	var l []api.Message
	for k := range n {
		l = append(l, message(k))
	}
	return l
}

// short is a message of a record of which nothing is known.
func short(from, to int) api.Message {
	return api.Message{Kind: api.MsgPrepare, From: from, To: to, R: api.Record{Inst: api.Instance{Slot: 1}}}
}

func with(change func(m *api.Message)) api.Message {
	m := message(1)
	change(&m)
	return m
}

// validMessages are of all kinds, and from and to all replicas.
func validMessages() []api.Message {
	top := api.Ballot{Number: number, Replica: 6}
	l := []api.Message{
		with(func(m *api.Message) { m.R = api.Record{Inst: api.Instance{Replica: 6, Slot: slot}} }),
		with(func(m *api.Message) { m.R = api.Record{Inst: api.Instance{Slot: 1}, Promise: top} }),
		with(func(m *api.Message) { m.Ballot = top }),
		with(func(m *api.Message) { m.Ballot = api.Ballot{} }),
		with(func(m *api.Message) { m.R.Cmd = api.Command{} }),
		with(func(m *api.Message) { m.R.Cmd.Reads = nil }),
		with(func(m *api.Message) { m.R.Cmd.Writes = []api.Write{} }),
		with(func(m *api.Message) { m.R.Status, m.R.Kept = api.Accepted, false }),
		with(func(m *api.Message) { m.R.Status, m.R.Kept = api.Committed, false }),
		with(func(m *api.Message) { m.R.Cmd.Kind, m.R.Cmd.Commit = api.Decide, true }),
	}
	for kind := 1; kind <= 8; kind++ {
		l = append(l, with(func(m *api.Message) { m.Kind = kind }))
	}
	for from := range 7 {
		for to := range 7 {
			l = append(l, short(from, to))
		}
	}
	return l
}

// wrongMessages are not valid, each for another reason.
func wrongMessages() []api.Message {
	l := []api.Message{
		{},
		{Kind: api.MsgPrepare},
		with(func(m *api.Message) { m.Ballot.Number = -1 }),
		with(func(m *api.Message) { m.Ballot.Number = number + 1 }),
		with(func(m *api.Message) { m.Ballot.Replica = 7 }),
		with(func(m *api.Message) { m.R = api.Record{} }),
		with(func(m *api.Message) { m.R.Inst.Slot = 0 }),
		with(func(m *api.Message) { m.R.Inst.Slot = slot + 1 }),
		with(func(m *api.Message) { m.R.Inst.Replica = -1 }),
		with(func(m *api.Message) { m.R.Status = 4 }),
		with(func(m *api.Message) { m.R.Status = api.None }),
		with(func(m *api.Message) { m.R.Status = api.Committed }),
		with(func(m *api.Message) { m.R.Promise = api.Ballot{} }),
		with(func(m *api.Message) { m.R.Seq = 0 }),
		with(func(m *api.Message) { m.R.Deps[6] = slot + 1 }),
		with(func(m *api.Message) { m.R.Cmd.Shards = 0 }),
		with(func(m *api.Message) { m.R.Cmd.Commit = true }),
		with(func(m *api.Message) { m.R.Cmd.Reads = []api.Read{{Key: "c"}, {Key: "a"}} }),
		with(func(m *api.Message) { m.R.Cmd.Writes = []api.Write{{Key: "abcdefghi"}} }),
	}
	for _, kind := range []int{math.MinInt, -1, 0, 9, 1<<32 + 1, math.MaxInt} {
		l = append(l, with(func(m *api.Message) { m.Kind = kind }))
	}
	for _, k := range []int{math.MinInt, -1, 7, 8, 1 << 32, math.MaxInt} {
		l = append(l, short(k, 0), short(0, k))
	}
	return l
}

// outside are indexes that a net with n messages does not have.
func outside(n int) []int {
	return []int{math.MinInt, -1 << 32, -n - 1, -n, -2, -1, n, n + 1, 2*n + 1, most, 1 << 32, 1<<32 + n, math.MaxInt}
}

// made is a net, and its model, that has these messages.
func made(t *testing.T, room int, l ...api.Message) (*net.Net, *model) {
	t.Helper()
	n, m := net.New(room), &model{room: room}
	if n == nil {
		t.Fatalf("New(%d) = nil", room)
	}
	for _, x := range l {
		checkCall(t, "made", n, m, callSend("", x))
	}
	return n, m
}

// net4 is a net for 4 messages that has messages 0, 1 and 2.
func net4(t *testing.T) (*net.Net, *model) {
	t.Helper()
	return made(t, 4, messages(3)...)
}

// model is a net as the document words it.
type model struct {
	room             int
	messages         []api.Message
	sent, came, lost int
}

// send takes a valid message.
func (m *model) send(x api.Message) (api.Message, api.Errno) {
	m.sent++
	if len(m.messages) == m.room {
		m.lost++
		return api.Message{}, api.ErrFull
	}
	m.messages = append(m.messages, x)
	return api.Message{}, api.OK
}

// look is told by going through the indexes that there are.
func (m *model) look(k int) (api.Message, api.Errno) {
	for i, x := range m.messages {
		if i == k {
			return x, api.OK
		}
	}
	return api.Message{}, api.ErrNone
}

func (m *model) drop(k int) {
	var left []api.Message
	for i, x := range m.messages {
		if i != k {
			left = append(left, x)
		}
	}
	m.messages = left
}

func (m *model) take(k int) (api.Message, api.Errno) {
	x, err := m.look(k)
	if err == api.OK {
		m.drop(k)
		m.came++
	}
	return x, err
}

func (m *model) lose(k int) (api.Message, api.Errno) {
	_, err := m.look(k)
	if err == api.OK {
		m.drop(k)
		m.lost++
	}
	return api.Message{}, err
}

func (m *model) twice(k int) (api.Message, api.Errno) {
	x, err := m.look(k)
	if err != api.OK {
		return api.Message{}, err
	}
	if len(m.messages) == m.room {
		return api.Message{}, api.ErrFull
	}
	m.sent++
	m.messages = append(m.messages, x)
	return api.Message{}, api.OK
}

func (m *model) find(from, to int) int {
	for k := range m.messages {
		if m.messages[k].From == from && m.messages[k].To == to {
			return k
		}
	}
	return -1
}

// own is the same model in memory of its own.
func (m *model) own() *model {
	c := *m
	c.messages = slices.Clone(m.messages)
	return &c
}

// call is a call of a net, and what the document says that it does. Where a call returns no message, it is zero here.
type call struct {
	name string
	do   func(n *net.Net) (api.Message, api.Errno)
	told func(m *model) (api.Message, api.Errno)
}

func callSend(name string, x api.Message) call {
	do := func(n *net.Net) (api.Message, api.Errno) { return api.Message{}, n.Send(x) }
	return call{"Send " + name, do, func(m *model) (api.Message, api.Errno) { return m.send(x) }}
}

// callWrong sends what is not valid.
func callWrong(x api.Message) call {
	told := func(m *model) (api.Message, api.Errno) { return api.Message{}, api.ErrArg }
	return call{"Send of a wrong one", callSend("", x).do, told}
}

func callLook(k int) call {
	do := func(n *net.Net) (api.Message, api.Errno) { return n.Look(k) }
	return call{"Look " + strconv.Itoa(k), do, func(m *model) (api.Message, api.Errno) { return m.look(k) }}
}

func callTake(k int) call {
	do := func(n *net.Net) (api.Message, api.Errno) { return n.Take(k) }
	return call{"Take " + strconv.Itoa(k), do, func(m *model) (api.Message, api.Errno) { return m.take(k) }}
}

func callLose(k int) call {
	do := func(n *net.Net) (api.Message, api.Errno) { return api.Message{}, n.Lose(k) }
	return call{"Lose " + strconv.Itoa(k), do, func(m *model) (api.Message, api.Errno) { return m.lose(k) }}
}

func callTwice(k int) call {
	do := func(n *net.Net) (api.Message, api.Errno) { return api.Message{}, n.Twice(k) }
	return call{"Twice " + strconv.Itoa(k), do, func(m *model) (api.Message, api.Errno) { return m.twice(k) }}
}

// callsOf are the calls that take an index.
func callsOf(k int) []call {
	return []call{callLook(k), callTake(k), callLose(k), callTwice(k)}
}

// checkCall does a call, and says where it, or the net behind it, is not as the model has it.
func checkCall(t *testing.T, what string, n *net.Net, m *model, c call) {
	t.Helper()
	what += ": " + c.name
	checkDone(t, what, n, m, c)
	check(t, what, n, m)
}

// checkDone does a call, and says where what it returns is not as the model has it.
func checkDone(t *testing.T, what string, n *net.Net, m *model, c call) {
	t.Helper()
	got, err := c.do(n)
	want, wanted := c.told(m)
	if err != wanted || !same(got, want) {
		t.Errorf("%s = %v, %d, want %v, %d", what, got, err, want, wanted)
	}
}

// check says what of a net is not as the model has it: what each call tells.
func check(t *testing.T, what string, n *net.Net, m *model) {
	t.Helper()
	if n.Len() != len(m.messages) {
		t.Errorf("%s: Len = %d, want %d", what, n.Len(), len(m.messages))
	}
	checkTally(t, what, n, net.Counts{Sent: m.sent, Came: m.came, Lost: m.lost})
	for k := -1; k <= len(m.messages); k++ {
		got, err := n.Look(k)
		if want, wanted := m.look(k); err != wanted || !same(got, want) {
			t.Errorf("%s: Look(%d) = %v, %d, want %v, %d", what, k, got, err, want, wanted)
		}
	}
	for from := -1; from <= 7; from++ {
		for to := -1; to <= 7; to++ {
			if got, want := n.Find(from, to), m.find(from, to); got != want {
				t.Errorf("%s: Find(%d, %d) = %d, want %d", what, from, to, got, want)
			}
		}
	}
}

// checkTally says where the counts are others, or where what was sent is neither delivered, nor lost, nor in the net.
func checkTally(t *testing.T, what string, n *net.Net, want net.Counts) {
	t.Helper()
	got := n.Tally()
	if got != want {
		t.Errorf("%s: Tally = %v, want %v", what, got, want)
	}
	if got.Sent != got.Came+got.Lost+n.Len() {
		t.Errorf("%s: of %d that were sent, %d came, %d were lost, and %d are in the net", what, got.Sent, got.Came, got.Lost, n.Len())
	}
}

func checkErr(t *testing.T, what string, got, want api.Errno) {
	t.Helper()
	if got != want {
		t.Errorf("%s = %d, want %d", what, got, want)
	}
}

// checkFrom says where the messages of a net are not those from these replicas, in this order.
func checkFrom(t *testing.T, what string, n *net.Net, want ...int) {
	t.Helper()
	var got []int
	for k := range n.Len() {
		m, _ := n.Look(k)
		got = append(got, m.From)
	}
	if !slices.Equal(got, want) {
		t.Errorf("%s: the messages are from %v, want %v", what, got, want)
	}
}

// same tells by hand whether two messages are the same.
func same(a, b api.Message) bool {
	return a.Kind == b.Kind && a.From == b.From && a.To == b.To && a.Ballot == b.Ballot &&
		a.R.Inst == b.R.Inst && a.R.Status == b.R.Status && a.R.Promise == b.R.Promise && a.R.Ballot == b.R.Ballot &&
		a.R.Seq == b.R.Seq && a.R.Deps == b.R.Deps && a.R.Kept == b.R.Kept && sameCommand(a.R.Cmd, b.R.Cmd)
}

func sameCommand(a, b api.Command) bool {
	return a.Kind == b.Kind && a.Txn == b.Txn && a.At == b.At && a.Shards == b.Shards && a.Commit == b.Commit &&
		slices.Equal(a.Reads, b.Reads) && slices.Equal(a.Writes, b.Writes)
}
