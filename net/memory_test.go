package net_test

import (
	"slices"
	"strconv"
	"testing"

	"althing/api"
	"althing/net"
)

// junkRead and junkWrite are what no message has.
var (
	junkRead  = api.Read{Key: "spoilt", Version: api.Stamp{Time: -7, Client: 9}}
	junkWrite = api.Write{Key: "spoilt", Value: "other"}
)

// withSpare is a message with junk in the spare capacity of its lists, and a function that tells whether the lists and that are as they were.
func withSpare(m api.Message) (api.Message, func() bool) {
	c := &m.R.Cmd
	r, w := slices.Concat(c.Reads, []api.Read{junkRead, junkRead}), slices.Concat(c.Writes, []api.Write{junkWrite})
	reads, writes := slices.Clone(r), slices.Clone(w)
	c.Reads, c.Writes = r[:len(r)-2], w[:len(w)-1]
	return m, func() bool { return slices.Equal(r, reads) && slices.Equal(w, writes) }
}

// spoil overwrites the lists of a message, and their spare capacity.
func spoil(m api.Message) {
	reads, writes := m.R.Cmd.Reads, m.R.Cmd.Writes
	for k := range reads[:cap(reads)] {
		reads[:cap(reads)][k] = junkRead
	}
	for k := range writes[:cap(writes)] {
		writes[:cap(writes)][k] = junkWrite
	}
}

// samples are messages with lists of several lengths, also of none.
func samples() []api.Message {
	return []api.Message{
		message(2),
		with(func(m *api.Message) { m.R.Cmd.Reads = m.R.Cmd.Reads[:1] }),
		with(func(m *api.Message) { m.R.Cmd.Writes = m.R.Cmd.Writes[:1] }),
		with(func(m *api.Message) { m.R.Cmd.Reads = nil }),
		with(func(m *api.Message) { m.R.Cmd.Writes = nil }),
		with(func(m *api.Message) { m.R.Cmd = api.Command{} }),
	}
}

// spoilResults spoils what all calls of all messages return; none is left behind it.
func spoilResults(n *net.Net) {
	for n.Len() > 0 {
		n.Twice(0)
		m, _ := n.Look(n.Len() - 1)
		spoil(m)
		m, _ = n.Take(n.Len() - 1)
		spoil(m)
		n.Lose(0)
	}
}

func TestP10_1SendLeavesItsArgument(t *testing.T) {
	for _, want := range samples() {
		for _, room := range []int{1, 2, 9} {
			m, untouched := withSpare(want)
			n := net.New(room)
			n.Send(m)
			n.Send(m)
			n.Send(message(3))
			spoilResults(n)
			if !untouched() || !same(m, want) {
				t.Errorf("Send to a net for %d, or a later call, changed the argument %v", room, want)
			}
		}
	}
}

func TestP10_1SendThatIsRefusedLeavesItsArgument(t *testing.T) {
	for _, want := range wrongMessages() {
		m, untouched := withSpare(want)
		n := net.New(2)
		checkErr(t, "Send", n.Send(m), api.ErrArg)
		n.Send(message(3))
		n.Twice(0)
		checkErr(t, "Send", n.Send(m), api.ErrArg)
		spoilResults(n)
		if !untouched() || !same(m, want) {
			t.Errorf("Send that is refused changed its argument %v", want)
		}
	}
}

func TestP10_1SendKeepsNothingOfItsArgument(t *testing.T) {
	for _, want := range samples() {
		m, _ := withSpare(want)
		n, told := made(t, 3, m, m)
		told.messages = []api.Message{want, want}
		spoil(m)
		check(t, "a net whose argument was changed", n, told)
		n.Twice(0)
		told.twice(0)
		check(t, "a copy of a message whose argument was changed", n, told)
	}
}

// A net that was full when a message was sent has nothing of it.
func TestP10_1SendIntoAFullNetKeepsNothing(t *testing.T) {
	m, untouched := withSpare(message(2))
	n, told := made(t, 1, message(1))
	checkDone(t, "full", n, told, callSend("into a full net", m))
	if !untouched() {
		t.Error("Send into a full net changed its argument")
	}
	spoil(m)
	check(t, "a full net", n, told)
	checkDone(t, "full", n, told, callTake(0))
	check(t, "a net that was full", n, told)
}

func TestP10_1LookIsNewMemory(t *testing.T) {
	for _, want := range samples() {
		n, told := made(t, 3, message(1), want)
		first, _ := n.Look(1)
		second, _ := n.Look(1)
		spoil(first)
		check(t, "a net of which Look's result was changed", n, told)
		if !same(second, want) {
			t.Errorf("two results of Look share memory: %v", second)
		}
		spoilResults(n)
		if !same(second, want) {
			t.Errorf("a result of Look follows the net: %v", second)
		}
	}
}

func TestP10_1TakeIsNewMemory(t *testing.T) {
	for _, want := range samples() {
		n, told := made(t, 3, message(1), want, message(3))
		looked, _ := n.Look(1)
		other := *n
		taken, _ := n.Take(1)
		told.take(1)
		again, _ := other.Take(1)
		spoil(taken)
		check(t, "a net of which Take's result was changed", n, told)
		if !same(looked, want) || !same(again, want) {
			t.Errorf("results of Look and Take share memory: %v, %v", looked, again)
		}
		spoilResults(n)
		if !same(again, want) {
			t.Errorf("a result of Take follows the net: %v", again)
		}
	}
}

// A message and its copy, and what Take returns of both, have nothing in common.
func TestP10_1TwiceIsNewMemory(t *testing.T) {
	for _, want := range samples() {
		for _, first := range []int{0, 1} {
			n, told := made(t, 2, want)
			checkDone(t, "Twice", n, told, callTwice(0))
			m, _ := n.Look(first)
			spoil(m)
			check(t, "a net with a copy", n, told)
			m, _ = n.Take(first)
			told.take(first)
			spoil(m)
			check(t, "what is left of a message and its copy", n, told)
			if m, _ = n.Take(0); !same(m, want) {
				t.Errorf("a message and its copy share memory: %v", m)
			}
		}
	}
}

// What is appended to lists of a result goes nowhere where other lists are.
func TestP10_1AppendedToAResult(t *testing.T) {
	n, told := made(t, 3, message(1))
	n.Twice(0)
	told.twice(0)
	var l []api.Message
	for _, k := range []int{0, 0, 1, 1} {
		m, _ := n.Look(k)
		l = append(l, m)
	}
	m, _ := n.Take(0)
	told.take(0)
	l = append(l, m)
	for k := range l {
		c := &l[k].R.Cmd
		c.Reads, c.Writes = append(c.Reads, api.Read{Key: strconv.Itoa(k)}), append(c.Writes, api.Write{Key: strconv.Itoa(k)})
	}
	for k := range l {
		c, want := l[k].R.Cmd, message(1).R.Cmd
		if !slices.Equal(c.Reads, append(want.Reads, api.Read{Key: strconv.Itoa(k)})) || !slices.Equal(c.Writes, append(want.Writes, api.Write{Key: strconv.Itoa(k)})) {
			t.Errorf("results share memory: %v", c)
		}
	}
	check(t, "a net whose results were appended to", n, told)
}

// A net takes its own messages as arguments.
func TestP10_1SendOfItsOwn(t *testing.T) {
	n, told := made(t, 4, message(1))
	for range 2 {
		m, _ := n.Look(0)
		checkDone(t, "its own", n, told, callSend("of its own", m))
		m, _ = n.Take(0)
		told.take(0)
		checkDone(t, "its own", n, told, callSend("of what was taken", m))
		spoil(m)
		for k := range told.messages {
			told.messages[k] = message(1) // the model keeps what it was sent
		}
		check(t, "a net that was sent its own", n, told)
	}
}

// sources are nets for 4 messages that have 0, 1 and 2, come by in several ways, as their memory may differ.
func sources() map[string][]call {
	send := func(k int) call { return callSend(strconv.Itoa(k), message(k)) }
	return map[string][]call{
		"sent":                         {send(0), send(1), send(2)},
		"the first one taken":          {send(5), send(0), send(1), send(2), callTake(0)},
		"the last one lost":            {send(0), send(1), send(2), send(5), callLose(3)},
		"one within taken":             {send(0), send(5), send(1), send(2), callTake(1)},
		"sent behind one that is lost": {send(0), send(5), callLose(1), send(1), send(2)},
		"a copy":                       {send(2), send(0), send(1), callTwice(0), callTake(0)},
		"full once":                    {send(0), send(1), send(2), send(5), send(6), callTake(3)},
	}
}

// changes are all calls that may change a net, each so that it would be seen.
func changes() []call {
	l := []call{callSend("5", message(5)), callWrong(api.Message{})}
	for _, k := range []int{-1, 0, 1, 2, 3} {
		l = append(l, callTake(k), callLose(k), callTwice(k))
	}
	return l
}

// Of a net and its copy, each takes calls in turns; each is what it would be alone.
func TestP10_1CopiesAreApart(t *testing.T) {
	for source, calls := range sources() {
		for _, a := range changes() {
			for _, b := range changes() {
				n, told := made(t, 4)
				for _, c := range calls {
					checkDone(t, source, n, told, c)
				}
				checkTwins(t, source+": "+a.name+" and "+b.name, n, told, a, b)
			}
		}
	}
}

func checkTwins(t *testing.T, what string, n *net.Net, m *model, a, b call) {
	t.Helper()
	other, told := *n, m.own()
	for _, step := range [][2]call{{a, b}, {callSend("3", message(3)), callSend("4", message(4))}, {b, a}, {callSend("6", message(6)), callSend("3", message(3))}} {
		checkDone(t, what+": the original", n, m, step[0])
		checkMessages(t, what+": the copy", &other, told)
		checkDone(t, what+": the copy", &other, told, step[1])
		checkMessages(t, what+": the original", n, m)
		checkMessages(t, what+": the copy", &other, told)
	}
	check(t, what+": the original at last", n, m)
	check(t, what+": the copy at last", &other, told)
}

// Nets that have the same memory put different messages behind, also where one is set back.
func TestP10_1CopiesSendApart(t *testing.T) {
	n := net.New(most)
	for k := range 5 {
		n.Send(short(k, 0))
	}
	a, b, c := *n, *n, *n
	a.Send(short(5, 1))
	b.Send(short(6, 2))
	c.Take(4)
	d := c
	c.Send(short(0, 3))
	d.Send(short(1, 3))
	checkFrom(t, "the net", n, 0, 1, 2, 3, 4)
	checkFrom(t, "the first copy", &a, 0, 1, 2, 3, 4, 5)
	checkFrom(t, "the second copy", &b, 0, 1, 2, 3, 4, 6)
	checkFrom(t, "the third copy", &c, 0, 1, 2, 3, 0)
	checkFrom(t, "the fourth copy", &d, 0, 1, 2, 3, 1)

	before := *n
	n.Send(short(2, 2))
	later := *n
	*n = before
	n.Send(short(3, 3))
	checkFrom(t, "what was set back", n, 0, 1, 2, 3, 4, 3)
	checkFrom(t, "what it was", &later, 0, 1, 2, 3, 4, 2)
}
