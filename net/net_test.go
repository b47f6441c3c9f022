package net_test

import (
	"math"
	"strconv"
	"testing"

	"althing/api"
	"althing/net"
)

func TestP10_1New(t *testing.T) {
	for _, room := range []int{1, 2, 3, 7, 8, 127, 128, most - 1, most} {
		n, m := made(t, room)
		check(t, "New("+strconv.Itoa(room)+")", n, m)
	}
}

func TestP10_1NewOfNoRoom(t *testing.T) {
	for _, room := range []int{0, -1, -2, -most, most + 1, most + 2, 2 * most, -1 << 32, 1 << 32, 1<<32 + 1, math.MinInt, math.MinInt + 1, math.MaxInt} {
		if n := net.New(room); n != nil {
			t.Errorf("New(%d) is a net", room)
		}
	}
}

// A net has just as many messages as it has space for.
func TestP10_1NewHasRoom(t *testing.T) {
	for _, room := range []int{1, 2, 3, 100, most - 1, most} {
		n := net.New(room)
		for k := range room {
			checkErr(t, "Send", n.Send(message(k)), api.OK)
		}
		checkTally(t, "full", n, net.Counts{Sent: room})
		checkErr(t, "Send of one more", n.Send(message(room)), api.ErrFull)
		checkErr(t, "Twice", n.Twice(0), api.ErrFull)
		checkTally(t, "more than full", n, net.Counts{Sent: room + 1, Lost: 1})
		for k := range room {
			if got, err := n.Look(k); err != api.OK || !same(got, message(k)) {
				t.Errorf("Look(%d) of %d = %v, %d", k, room, got, err)
			}
		}
	}
}

func TestP10_1NetsAreApart(t *testing.T) {
	a, b := net.New(2), net.New(2)
	a.Send(message(1))
	b.Send(message(2))
	b.Send(message(3))
	b.Send(message(4))
	a.Take(0)
	checkFrom(t, "the first net", a)
	checkFrom(t, "the second net", b, 2, 3)
	checkTally(t, "the first net", a, net.Counts{Sent: 1, Came: 1})
	checkTally(t, "the second net", b, net.Counts{Sent: 3, Lost: 1})
}

func TestP10_1Send(t *testing.T) {
	n, m := made(t, most)
	for _, x := range validMessages() {
		checkErr(t, "Send", n.Send(x), api.OK)
		m.send(x)
	}
	check(t, "Send of all valid ones", n, m)
}

func TestP10_1SendPutsBehind(t *testing.T) {
	n := net.New(4)
	checkErr(t, "Send", n.Send(message(5)), api.OK)
	checkFrom(t, "one", n, 5)
	checkErr(t, "Send", n.Send(message(2)), api.OK)
	checkErr(t, "Send", n.Send(message(6)), api.OK)
	checkErr(t, "Send of the same again", n.Send(message(2)), api.OK)
	checkFrom(t, "four", n, 5, 2, 6, 2)
	checkTally(t, "four", n, net.Counts{Sent: 4})
}

// What is not valid is refused whether there is space or not, and counts neither as sent nor as lost.
func TestP10_1SendOfWhatIsNotValid(t *testing.T) {
	for _, room := range []int{3, 4, 5, most} {
		n, m := made(t, room, messages(3)...)
		for _, x := range wrongMessages() {
			checkCall(t, "with 3 of "+strconv.Itoa(room), n, m, callWrong(x))
		}
		checkTally(t, "refused ones", n, net.Counts{Sent: 3})
	}
	n, m := made(t, 1)
	for _, x := range wrongMessages() {
		checkCall(t, "a net without messages", n, m, callWrong(x))
	}
	checkCall(t, "behind refused ones", n, m, callSend("", message(1)))
	n, m = made(t, 1, messages(3)...)
	checkCall(t, "a net that lost some", n, m, callWrong(api.Message{}))
	checkTally(t, "a net that lost some", n, net.Counts{Sent: 3, Lost: 2})
}

func TestP10_1SendIntoOneSpace(t *testing.T) {
	for _, room := range []int{1, 2, 3, 4, 9} {
		n, m := made(t, room, messages(room-1)...)
		checkErr(t, "Send into one space", n.Send(message(room)), api.OK)
		m.send(message(room))
		check(t, "Send into one space", n, m)
		checkTally(t, "Send into one space", n, net.Counts{Sent: room})
		checkErr(t, "Send into none", n.Send(message(8)), api.ErrFull)
		m.send(message(8))
		check(t, "Send into none", n, m)
		checkTally(t, "Send into none", n, net.Counts{Sent: room + 1, Lost: 1})
	}
}

func TestP10_1SendIntoAFullNet(t *testing.T) {
	n, m := made(t, 3, messages(3)...)
	for k := range 5 {
		checkErr(t, "Send into a full net", n.Send(message(k+3)), api.ErrFull)
		m.send(message(k + 3))
		check(t, "Send into a full net", n, m)
		checkTally(t, "Send into a full net", n, net.Counts{Sent: 4 + k, Lost: 1 + k})
	}
	checkFrom(t, "a full net", n, 0, 1, 2)
}

// What was lost does not come back where there is space again; what is sent then is put behind the others.
func TestP10_1SendWhereThereIsSpaceAgain(t *testing.T) {
	for name, leave := range map[string]call{"Take": callTake(1), "Lose": callLose(1)} {
		n, m := made(t, 3, messages(4)...)
		checkCall(t, name, n, m, leave)
		checkFrom(t, name, n, 0, 2)
		checkCall(t, name, n, m, callSend("", message(5)))
		checkFrom(t, name+", Send", n, 0, 2, 5)
		checkCall(t, name, n, m, callSend("into a full net", message(6)))
		checkFrom(t, name+", Send into a full net", n, 0, 2, 5)
	}
}

func TestP10_1Look(t *testing.T) {
	n, m := net4(t)
	for k := range 3 {
		got, err := n.Look(k)
		if err != api.OK || !same(got, message(k)) {
			t.Errorf("Look(%d) = %v, %d", k, got, err)
		}
		check(t, "Look", n, m)
	}
}

// Each call of each index of nets with 1 to 5 messages: what it returns, what is left in which order, and what counts.
func TestP10_1OfEachIndex(t *testing.T) {
	for size := 1; size <= 5; size++ {
		for room := size; room <= size+2; room++ {
			for k := range size {
				for _, c := range callsOf(k) {
					n, m := made(t, room, messages(size)...)
					checkCall(t, strconv.Itoa(size)+" of "+strconv.Itoa(room), n, m, c)
				}
			}
		}
	}
}

func TestP10_1OfNoIndex(t *testing.T) {
	for size := range 6 {
		for room := max(size, 1); room <= size+2; room++ {
			n, m := made(t, room, messages(size)...)
			for _, k := range outside(size) {
				for _, c := range callsOf(k) {
					what := strconv.Itoa(size) + " of " + strconv.Itoa(room) + ": " + c.name
					got, err := c.do(n)
					checkErr(t, what, err, api.ErrNone)
					if !same(got, api.Message{}) {
						t.Errorf("%s = %v with an error", what, got)
					}
				}
			}
			check(t, "calls of no index", n, m)
			checkTally(t, "calls of no index", n, net.Counts{Sent: size})
		}
	}
}

func TestP10_1TakeLeavesTheOthers(t *testing.T) {
	for k, want := range [][]int{{1, 2, 3, 4}, {0, 2, 3, 4}, {0, 1, 3, 4}, {0, 1, 2, 4}, {0, 1, 2, 3}} {
		n := net.New(5)
		for from := range 5 {
			n.Send(short(from, 0))
		}
		got, err := n.Take(k)
		checkErr(t, "Take", err, api.OK)
		if !same(got, short(k, 0)) {
			t.Errorf("Take(%d) = %v", k, got)
		}
		checkFrom(t, "Take", n, want...)
		checkTally(t, "Take", n, net.Counts{Sent: 5, Came: 1})
	}
}

func TestP10_1LoseLeavesTheOthers(t *testing.T) {
	for k, want := range [][]int{{1, 2, 3, 4}, {0, 2, 3, 4}, {0, 1, 3, 4}, {0, 1, 2, 4}, {0, 1, 2, 3}} {
		n := net.New(5)
		for from := range 5 {
			n.Send(short(from, 0))
		}
		checkErr(t, "Lose", n.Lose(k), api.OK)
		checkFrom(t, "Lose", n, want...)
		checkTally(t, "Lose", n, net.Counts{Sent: 5, Lost: 1})
	}
}

func TestP10_1UntilThereAreNone(t *testing.T) {
	n, m := made(t, 5, messages(5)...)
	for _, c := range []call{callTake(4), callLose(1), callTake(0), callLose(1), callTake(0), callTake(0), callLose(0), callTwice(0)} {
		checkCall(t, "one by one", n, m, c)
	}
	checkTally(t, "none is left", n, net.Counts{Sent: 5, Came: 3, Lost: 2})
	checkCall(t, "none is left", n, m, callSend("", message(6)))
	checkFrom(t, "none was left", n, 6)
}

func TestP10_1Twice(t *testing.T) {
	for k, want := range [][]int{{0, 1, 2, 0}, {0, 1, 2, 1}, {0, 1, 2, 2}} {
		n, m := net4(t)
		checkErr(t, "Twice", n.Twice(k), api.OK)
		m.twice(k)
		check(t, "Twice", n, m)
		checkFrom(t, "Twice", n, want...)
		checkTally(t, "Twice", n, net.Counts{Sent: 4})
		checkErr(t, "Twice of a full net", n.Twice(k), api.ErrFull)
	}
}

// Without space there is no copy, none that is sent, and none that is lost.
func TestP10_1TwiceOfAFullNet(t *testing.T) {
	for _, room := range []int{1, 2, 5} {
		n, m := made(t, room, messages(room)...)
		for k := range room {
			checkErr(t, "Twice of a full net", n.Twice(k), api.ErrFull)
			check(t, "Twice of a full net", n, m)
			checkTally(t, "Twice of a full net", n, net.Counts{Sent: room})
		}
		for _, k := range outside(room) {
			checkErr(t, "Twice of no index of a full net", n.Twice(k), api.ErrNone)
		}
		check(t, "Twice of no index of a full net", n, m)
	}
}

func TestP10_1TwiceOfACopy(t *testing.T) {
	n, m := made(t, 4, message(1), message(2))
	for _, c := range []call{callTwice(0), callTwice(2), callTwice(3), callLose(0), callTwice(2), callTake(2), callTake(2)} {
		checkCall(t, "copies", n, m, c)
	}
	checkFrom(t, "copies", n, 2, 1)
	checkTally(t, "copies", n, net.Counts{Sent: 5, Came: 2, Lost: 1})
}

// A copy and its message are two: each is delivered, or lost, by itself.
func TestP10_1ACopyIsAMessage(t *testing.T) {
	for _, first := range []int{0, 1} {
		n := net.New(2)
		n.Send(message(3))
		checkErr(t, "Twice", n.Twice(0), api.OK)
		for _, k := range []int{first, 0} {
			if got, err := n.Take(k); err != api.OK || !same(got, message(3)) {
				t.Errorf("Take(%d) = %v, %d", k, got, err)
			}
		}
		checkTally(t, "both came", n, net.Counts{Sent: 2, Came: 2})
		checkErr(t, "Lose", n.Lose(0), api.ErrNone)
	}
}

func TestP10_2LenAndTally(t *testing.T) {
	n := net.New(2)
	for _, step := range []struct {
		call call
		size int
		want net.Counts
	}{
		{callTake(0), 0, net.Counts{}},
		{callSend("", message(1)), 1, net.Counts{Sent: 1}},
		{callWrong(api.Message{}), 1, net.Counts{Sent: 1}},
		{callTwice(0), 2, net.Counts{Sent: 2}},
		{callTwice(0), 2, net.Counts{Sent: 2}},
		{callSend("into a full net", message(2)), 2, net.Counts{Sent: 3, Lost: 1}},
		{callLook(1), 2, net.Counts{Sent: 3, Lost: 1}},
		{callTake(1), 1, net.Counts{Sent: 3, Came: 1, Lost: 1}},
		{callTake(1), 1, net.Counts{Sent: 3, Came: 1, Lost: 1}},
		{callSend("again", message(3)), 2, net.Counts{Sent: 4, Came: 1, Lost: 1}},
		{callLose(0), 1, net.Counts{Sent: 4, Came: 1, Lost: 2}},
		{callLose(-1), 1, net.Counts{Sent: 4, Came: 1, Lost: 2}},
		{callTake(0), 0, net.Counts{Sent: 4, Came: 2, Lost: 2}},
		{callLose(0), 0, net.Counts{Sent: 4, Came: 2, Lost: 2}},
		{callTwice(0), 0, net.Counts{Sent: 4, Came: 2, Lost: 2}},
	} {
		step.call.do(n)
		if n.Len() != step.size {
			t.Errorf("%s: Len = %d, want %d", step.call.name, n.Len(), step.size)
		}
		checkTally(t, step.call.name, n, step.want)
	}
}

func checkFind(t *testing.T, n *net.Net, from, to, want int) {
	t.Helper()
	if got := n.Find(from, to); got != want {
		t.Errorf("Find(%d, %d) = %d, want %d", from, to, got, want)
	}
}

func TestP10_2Find(t *testing.T) {
	n := net.New(9)
	checkFind(t, n, 0, 0, -1)
	for _, pair := range [][2]int{{1, 2}, {2, 1}, {1, 3}, {3, 2}, {1, 2}, {2, 2}, {1, 3}} {
		n.Send(short(pair[0], pair[1]))
	}
	checkFind(t, n, 1, 2, 0) // several have it: the first one
	checkFind(t, n, 2, 1, 1) // the other way round
	checkFind(t, n, 1, 3, 2)
	checkFind(t, n, 3, 2, 3)
	checkFind(t, n, 2, 2, 5)
	checkFind(t, n, 3, 1, -1) // nobody sent it, though both are there
	checkFind(t, n, 2, 3, -1)
	checkFind(t, n, 1, 1, -1)
	checkFind(t, n, 0, 0, -1)
}

func TestP10_2FindBehindTakeAndLose(t *testing.T) {
	for name, leave := range map[string]func(n *net.Net, k int){
		"Take": func(n *net.Net, k int) { n.Take(k) },
		"Lose": func(n *net.Net, k int) { n.Lose(k) },
	} {
		t.Run(name, func(t *testing.T) {
			n := net.New(4)
			for _, pair := range [][2]int{{1, 2}, {4, 5}, {1, 2}, {1, 2}} {
				n.Send(short(pair[0], pair[1]))
			}
			leave(n, 0)
			checkFind(t, n, 1, 2, 1)
			checkFind(t, n, 4, 5, 0)
			leave(n, 1)
			checkFind(t, n, 1, 2, 1)
			leave(n, 0)
			checkFind(t, n, 1, 2, 0)
			checkFind(t, n, 4, 5, -1)
			leave(n, 0)
			checkFind(t, n, 1, 2, -1)
		})
	}
}

func TestP10_2FindBehindTwiceAndSend(t *testing.T) {
	n := net.New(3)
	n.Send(short(1, 2))
	n.Send(short(4, 5))
	n.Twice(0)
	checkFind(t, n, 1, 2, 0)
	n.Lose(0)
	checkFind(t, n, 1, 2, 1)
	n.Send(short(6, 6))
	n.Send(short(5, 4)) // it is lost
	checkFind(t, n, 6, 6, 2)
	checkFind(t, n, 5, 4, -1)
}

// No message is from or to what is no replica, also not to one that a shorter number would be.
func TestP10_2FindOfNoReplica(t *testing.T) {
	n := net.New(most)
	for from := range 7 {
		for to := range 7 {
			n.Send(short(from, to))
		}
	}
	for _, k := range []int{math.MinInt, -1 << 32, -7, -1, 7, 8, 256, 257, 1 << 32, 1<<32 + 1, math.MaxInt} {
		for other := range 7 {
			checkFind(t, n, k, other, -1)
			checkFind(t, n, other, k, -1)
		}
		checkFind(t, n, k, k, -1)
	}
}

func TestP10_2NilNet(t *testing.T) {
	for _, n := range []*net.Net{nil, net.New(0), net.New(most + 1)} {
		for _, x := range append(wrongMessages(), message(1), short(0, 1)) {
			checkErr(t, "Send to nil", n.Send(x), api.ErrArg)
		}
		for _, k := range append(outside(1), 0) {
			for _, c := range callsOf(k) {
				got, err := c.do(n)
				checkErr(t, c.name+" of nil", err, api.ErrArg)
				if !same(got, api.Message{}) {
					t.Errorf("%s of nil = %v", c.name, got)
				}
			}
			checkFind(t, n, k, 0, -1)
			checkFind(t, n, 0, k, -1)
		}
		if n.Len() != 0 {
			t.Errorf("Len of nil = %d", n.Len())
		}
		checkTally(t, "nil", n, net.Counts{})
	}
}

// What New did not return is promised nothing; it is a net without space, and ends.
func TestOfAZeroNet(t *testing.T) {
	n := new(net.Net)
	checkErr(t, "Send", n.Send(message(1)), api.ErrFull)
	checkErr(t, "Send of a wrong one", n.Send(api.Message{}), api.ErrArg)
	for _, c := range callsOf(0) {
		_, err := c.do(n)
		checkErr(t, c.name, err, api.ErrNone)
	}
	checkFind(t, n, 1, 0, -1)
	checkTally(t, "a zero net", n, net.Counts{Sent: 1, Lost: 1})
}

func TestExampleOfTheDocument(t *testing.T) {
	a, b := short(0, 1), short(1, 2)
	n := net.New(2)
	checkErr(t, "Send a", n.Send(a), api.OK)
	checkErr(t, "Send b", n.Send(b), api.OK)
	if got, err := n.Take(0); err != api.OK || !same(got, a) {
		t.Errorf("Take(0) = %v, %d, want a", got, err)
	}
	if got, err := n.Look(0); err != api.OK || !same(got, b) {
		t.Errorf("Look(0) = %v, %d, want b", got, err)
	}
}
