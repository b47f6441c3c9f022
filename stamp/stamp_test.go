package stamp_test

import (
	"math"
	"testing"

	"althing/api"
	"althing/stamp"
)

const (
	top  = 1 << 40 // the greatest number of ballots, times and names
	last = 1 << 20 // the last slot
)

// numbers are in increasing order: the edges of all ranges, what is beside them, and numbers whose differences wrap round.
func numbers() []int {
	return []int{
		math.MinInt, math.MinInt + 1, -top - 1, -top, -1 << 32, -7, -2, -1,
		0, 1, 2, 3, 4, 5, 6, 7, 8,
		last - 1, last, last + 1, 1<<31 - 1, 1 << 31, 1 << 32, 1<<32 + 1,
		top - 1, top, top + 1, math.MaxInt - 1, math.MaxInt,
	}
}

func rightNumbers() []int {
	return []int{0, 1, 2, 6, 7, last, 1<<31 - 1, 1 << 31, 1 << 32, top - 1, top}
}

func wrongNumbers() []int {
	return []int{-1, -2, -top, math.MinInt, top + 1, 1 << 41, math.MaxInt}
}

func notReplicas() []int {
	return []int{-1, -2, -7, math.MinInt, 7, 8, 1 << 32, 1<<32 + 1, math.MaxInt}
}

func notClients() []int {
	return []int{-1, -2, -4, math.MinInt, 4, 5, 6, 7, 1 << 32, 1<<32 + 1, math.MaxInt}
}

// order is what comparing place i with place k of a list in increasing order must answer.
func order(i, k int) int {
	switch {
	case i < k:
		return -1
	case i > k:
		return 1
	}
	return 0
}

// pairs are all pairs of numbers, ordered by the first one, then by the second one.
func pairs() [][2]int {
	var l [][2]int
	for _, first := range numbers() {
		for _, second := range numbers() {
			l = append(l, [2]int{first, second})
		}
	}
	return l
}

func TestP2_1RightBallot(t *testing.T) {
	for _, n := range rightNumbers() {
		for k := range 7 {
			if b := (api.Ballot{Number: n, Replica: k}); !stamp.RightBallot(b) {
				t.Errorf("RightBallot(%v) = false", b)
			}
		}
		for _, k := range notReplicas() {
			if b := (api.Ballot{Number: n, Replica: k}); stamp.RightBallot(b) {
				t.Errorf("RightBallot(%v) = true", b)
			}
		}
	}
	for _, n := range wrongNumbers() {
		for k := range 7 {
			if b := (api.Ballot{Number: n, Replica: k}); stamp.RightBallot(b) {
				t.Errorf("RightBallot(%v) = true", b)
			}
		}
	}
}

func TestP2_1RightStamp(t *testing.T) {
	for _, n := range rightNumbers() {
		for k := range 4 {
			if s := (api.Stamp{Time: n, Client: k}); !stamp.RightStamp(s) {
				t.Errorf("RightStamp(%v) = false", s)
			}
		}
		for _, k := range notClients() {
			if s := (api.Stamp{Time: n, Client: k}); stamp.RightStamp(s) {
				t.Errorf("RightStamp(%v) = true", s)
			}
		}
	}
	for _, n := range wrongNumbers() {
		for k := range 4 {
			if s := (api.Stamp{Time: n, Client: k}); stamp.RightStamp(s) {
				t.Errorf("RightStamp(%v) = true", s)
			}
		}
	}
}

func TestP2_1RightTxn(t *testing.T) {
	for _, n := range rightNumbers() {
		for k := range 4 {
			// Names begin at 1, unlike ballots and times.
			if x := (api.Txn{Client: k, Number: n}); stamp.RightTxn(x) != (n != 0) {
				t.Errorf("RightTxn(%v) = %v", x, n == 0)
			}
		}
		for _, k := range notClients() {
			if x := (api.Txn{Client: k, Number: n}); stamp.RightTxn(x) {
				t.Errorf("RightTxn(%v) = true", x)
			}
		}
	}
	for _, n := range wrongNumbers() {
		for k := range 4 {
			if x := (api.Txn{Client: k, Number: n}); stamp.RightTxn(x) {
				t.Errorf("RightTxn(%v) = true", x)
			}
		}
	}
}

func TestP2_1RightInst(t *testing.T) {
	right := []int{1, 2, 3, 6, 7, 8, 1000, last - 1, last}
	wrong := []int{0, -1, -2, -last, math.MinInt, last + 1, 1 << 21, 1 << 32, 1<<32 + 1, top, math.MaxInt}
	for k := range 7 {
		for _, slot := range right {
			if i := (api.Instance{Replica: k, Slot: slot}); !stamp.RightInst(i) {
				t.Errorf("RightInst(%v) = false", i)
			}
		}
		for _, slot := range wrong {
			if i := (api.Instance{Replica: k, Slot: slot}); stamp.RightInst(i) {
				t.Errorf("RightInst(%v) = true", i)
			}
		}
	}
	for _, k := range notReplicas() {
		for _, slot := range append(right, wrong...) {
			if i := (api.Instance{Replica: k, Slot: slot}); stamp.RightInst(i) {
				t.Errorf("RightInst(%v) = true", i)
			}
		}
	}
}

func TestP2_1CompareBallots(t *testing.T) {
	for i, a := range pairs() {
		for k, b := range pairs() {
			x, y := api.Ballot{Number: a[0], Replica: a[1]}, api.Ballot{Number: b[0], Replica: b[1]}
			if got := stamp.CompareBallots(x, y); got != order(i, k) {
				t.Fatalf("CompareBallots(%v, %v) = %d, want %d", x, y, got, order(i, k))
			}
		}
	}
}

func TestP2_1CompareStamps(t *testing.T) {
	for i, a := range pairs() {
		for k, b := range pairs() {
			x, y := api.Stamp{Time: a[0], Client: a[1]}, api.Stamp{Time: b[0], Client: b[1]}
			if got := stamp.CompareStamps(x, y); got != order(i, k) {
				t.Fatalf("CompareStamps(%v, %v) = %d, want %d", x, y, got, order(i, k))
			}
		}
	}
}

func TestP2_1CompareTxns(t *testing.T) {
	for i, a := range pairs() {
		for k, b := range pairs() {
			x, y := api.Txn{Client: a[0], Number: a[1]}, api.Txn{Client: b[0], Number: b[1]}
			if got := stamp.CompareTxns(x, y); got != order(i, k) {
				t.Fatalf("CompareTxns(%v, %v) = %d, want %d", x, y, got, order(i, k))
			}
		}
	}
}

func TestP2_1CompareInsts(t *testing.T) {
	for i, a := range pairs() {
		for k, b := range pairs() {
			x, y := api.Instance{Replica: a[0], Slot: a[1]}, api.Instance{Replica: b[0], Slot: b[1]}
			if got := stamp.CompareInsts(x, y); got != order(i, k) {
				t.Fatalf("CompareInsts(%v, %v) = %d, want %d", x, y, got, order(i, k))
			}
		}
	}
}

func TestP2_1ExampleOfTheChapter(t *testing.T) {
	b := api.Ballot{Number: 3, Replica: 1}
	if got := stamp.CompareBallots(b, api.Ballot{Number: 3, Replica: 2}); got != -1 {
		t.Errorf("3 of replica 1 and 3 of replica 2: %d, want -1", got)
	}
	if got := stamp.CompareBallots(b, api.Ballot{Number: 2, Replica: 5}); got != 1 {
		t.Errorf("3 of replica 1 and 2 of replica 5: %d, want 1", got)
	}
}

func TestP2_2NextBallot(t *testing.T) {
	for _, n := range rightNumbers() {
		for from := range 7 {
			for k := range 7 {
				b := api.Ballot{Number: n, Replica: from}
				want, wantErr := api.Ballot{Number: n + 1, Replica: k}, api.OK
				if n == top {
					want, wantErr = api.Ballot{}, api.ErrRange
				}
				if got, err := stamp.NextBallot(b, k); got != want || err != wantErr {
					t.Errorf("NextBallot(%v, %d) = %v, %d, want %v, %d", b, k, got, err, want, wantErr)
				}
			}
		}
	}
}

func TestP2_2NextBallotOfWrongArguments(t *testing.T) {
	refused := func(b api.Ballot, k int) {
		if got, err := stamp.NextBallot(b, k); got != (api.Ballot{}) || err != api.ErrArg {
			t.Errorf("NextBallot(%v, %d) = %v, %d, want ErrArg", b, k, got, err)
		}
	}
	for _, n := range rightNumbers() { // also the greatest one: ErrArg goes before ErrRange
		for _, k := range notReplicas() {
			refused(api.Ballot{Number: n, Replica: 6}, k)
			refused(api.Ballot{Number: n, Replica: k}, 6)
			refused(api.Ballot{Number: n, Replica: k}, k)
		}
	}
	for _, n := range wrongNumbers() {
		for k := range 7 {
			refused(api.Ballot{Number: n}, k)
			refused(api.Ballot{Number: n, Replica: k}, 0)
		}
	}
}

func TestP2_2NextStamp(t *testing.T) {
	for _, n := range rightNumbers() {
		for from := range 4 {
			for k := range 4 {
				s := api.Stamp{Time: n, Client: from}
				want, wantErr := api.Stamp{Time: n + 1, Client: k}, api.OK
				if n == top {
					want, wantErr = api.Stamp{}, api.ErrRange
				}
				if got, err := stamp.NextStamp(s, k); got != want || err != wantErr {
					t.Errorf("NextStamp(%v, %d) = %v, %d, want %v, %d", s, k, got, err, want, wantErr)
				}
			}
		}
	}
}

func TestP2_2NextStampOfWrongArguments(t *testing.T) {
	refused := func(s api.Stamp, k int) {
		if got, err := stamp.NextStamp(s, k); got != (api.Stamp{}) || err != api.ErrArg {
			t.Errorf("NextStamp(%v, %d) = %v, %d, want ErrArg", s, k, got, err)
		}
	}
	for _, n := range rightNumbers() { // also the greatest one: ErrArg goes before ErrRange
		for _, k := range notClients() {
			refused(api.Stamp{Time: n, Client: 3}, k)
			refused(api.Stamp{Time: n, Client: k}, 3)
			refused(api.Stamp{Time: n, Client: k}, k)
		}
	}
	for _, n := range wrongNumbers() {
		for k := range 4 {
			refused(api.Stamp{Time: n}, k)
			refused(api.Stamp{Time: n, Client: k}, 0)
		}
	}
}

func TestP2_3NextBallots(t *testing.T) {
	for _, n := range rightNumbers() {
		for from := range 7 {
			b := api.Ballot{Number: n, Replica: from}
			seen := map[api.Ballot]int{}
			for k := range 7 {
				next, err := stamp.NextBallot(b, k)
				if err != api.OK {
					continue
				}
				if !stamp.RightBallot(next) || stamp.CompareBallots(next, b) != 1 || stamp.CompareBallots(b, next) != -1 {
					t.Errorf("NextBallot(%v, %d) = %v is not valid or not after it", b, k, next)
				}
				seen[next]++
			}
			if n < top && len(seen) != 7 {
				t.Errorf("after %v: %d different ballots of 7 replicas", b, len(seen))
			}
		}
	}
}

func TestP2_3NextStamps(t *testing.T) {
	for _, n := range rightNumbers() {
		for from := range 4 {
			s := api.Stamp{Time: n, Client: from}
			seen := map[api.Stamp]int{}
			for k := range 4 {
				next, err := stamp.NextStamp(s, k)
				if err != api.OK {
					continue
				}
				if !stamp.RightStamp(next) || stamp.CompareStamps(next, s) != 1 || stamp.CompareStamps(s, next) != -1 {
					t.Errorf("NextStamp(%v, %d) = %v is not valid or not after it", s, k, next)
				}
				seen[next]++
			}
			if n < top && len(seen) != 4 {
				t.Errorf("after %v: %d different times of 4 clients", s, len(seen))
			}
		}
	}
}
