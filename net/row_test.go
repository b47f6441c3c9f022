package net_test

import (
	"strconv"
	"testing"

	"althing/api"
	"althing/net"
)

// someCalls are calls of nets with few messages, each so that it would be seen.
func someCalls() []call {
	l := []call{callSend("0", message(0)), callSend("1", message(8)), callWrong(api.Message{})}
	for _, k := range []int{-1, 0, 1, 2} {
		l = append(l, callTake(k), callLose(k), callTwice(k))
	}
	return l
}

// All rows of four calls, of nets with all numbers of messages. Behind each call, every message that was sent has been delivered, has been lost, or is in the net.
func TestP10_3AllRows(t *testing.T) {
	for room := 1; room <= 3; room++ {
		for size := range room + 1 {
			what := strconv.Itoa(size) + " of " + strconv.Itoa(room)
			n, m := made(t, room, messages(size)...)
			checkRows(t, what, n, m, 4)
		}
	}
}

// checkRows does all rows of so many calls, each on a net of its own, which is a copy of n.
func checkRows(t *testing.T, what string, n *net.Net, m *model, calls int) {
	t.Helper()
	if calls == 0 {
		return
	}
	for _, c := range someCalls() {
		other, told := *n, m.own()
		checkDone(t, what+", "+c.name, &other, told, c)
		checkTally(t, what+", "+c.name, &other, net.Counts{Sent: told.sent, Came: told.came, Lost: told.lost})
		checkMessages(t, what+", "+c.name, &other, told)
		checkRows(t, what+", "+c.name, &other, told, calls-1)
	}
}

func checkMessages(t *testing.T, what string, n *net.Net, m *model) {
	t.Helper()
	if n.Len() != len(m.messages) {
		t.Errorf("%s: Len = %d, want %d", what, n.Len(), len(m.messages))
	}
	for k, want := range m.messages {
		if got, err := n.Look(k); err != api.OK || !same(got, want) {
			t.Errorf("%s: Look(%d) = %v, %d, want %v", what, k, got, err, want)
		}
	}
}

// dice throws numbers that differ, the same ones each time.
type dice uint32

func (d *dice) below(n int) int {
	*d = *d*1664525 + 1013904223
	return int(*d>>16) % n
}

// anyCall is any call, of any index that a net with n messages has, or almost has.
func anyCall(d *dice, n, step int) call {
	k := d.below(n+2) - 1
	switch d.below(10) {
	case 0, 1, 2, 3:
		return callSend("", message(step))
	case 4:
		return callWrong(wrongMessages()[d.below(len(wrongMessages()))])
	case 5, 6:
		return callTake(k)
	case 7:
		return callLose(k)
	case 8:
		return callLook(k)
	}
	return callTwice(k)
}

// Long rows of calls, of nets of all sizes, which are full now and then.
func TestP10_3LongRows(t *testing.T) {
	for _, room := range []int{1, 2, 3, 5, 20, most - 1, most} {
		d := dice(room)
		n, m := made(t, room)
		wasFull := false
		for step := range 3000 {
			c := anyCall(&d, n.Len(), step)
			what := "room " + strconv.Itoa(room) + ", step " + strconv.Itoa(step) + ": " + c.name
			checkDone(t, what, n, m, c)
			checkTally(t, what, n, net.Counts{Sent: m.sent, Came: m.came, Lost: m.lost})
			wasFull = wasFull || n.Len() == room
			if step%100 == 0 {
				check(t, what, n, m)
			}
		}
		check(t, "room "+strconv.Itoa(room), n, m)
		if !wasFull {
			t.Errorf("room %d: it was never full", room)
		}
	}
}

// Each message that was sent is found again: it came, it was lost, or it is in the net.
func TestP10_3EachMessage(t *testing.T) {
	for _, room := range []int{1, 4, 30, most} {
		d, n := dice(room+7), net.New(room)
		where := map[int]string{} // by the number of the message
		for k := range 2000 {
			where[k] = "lost on its way"
			if n.Send(message(k)) == api.OK {
				where[k] = "in the net"
			}
			if at := d.below(2 * n.Len()); at < n.Len() {
				m, _ := n.Take(at)
				moved(t, where, m, "delivered")
			}
			if at := d.below(9 * max(1, n.Len())); at < n.Len() {
				m, _ := n.Look(at)
				n.Lose(at)
				moved(t, where, m, "lost by Lose")
			}
		}
		for k := range n.Len() {
			m, _ := n.Look(k)
			moved(t, where, m, "in the net at last")
		}
		counts := map[string]int{}
		for _, place := range where {
			counts[place]++
		}
		if counts["in the net"] != 0 {
			t.Errorf("room %d: %d messages are nowhere", room, counts["in the net"])
		}
		want := net.Counts{Sent: 2000, Came: counts["delivered"], Lost: counts["lost on its way"] + counts["lost by Lose"]}
		checkTally(t, "room "+strconv.Itoa(room), n, want)
	}
}

// moved is a message that was in the net until now.
func moved(t *testing.T, where map[int]string, m api.Message, place string) {
	t.Helper()
	k := m.R.Inst.Slot - 300
	if where[k] != "in the net" || !same(m, message(k)) {
		t.Errorf("message %d is %s, and was %s: %v", k, place, where[k], m)
	}
	where[k] = place
}
