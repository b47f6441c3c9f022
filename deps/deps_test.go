package deps_test

import (
	"math"
	"slices"
	"testing"

	"althing/api"
	"althing/deps"
)

const last = 1 << 20 // the last slot

// slots are in increasing order: the edges of the range, what is beside them, and numbers that no slot is.
func slots() []int {
	return []int{
		math.MinInt, math.MinInt + 1, -1 << 32, -last - 1, -last, -7, -2, -1,
		0, 1, 2, 3, 6, 7, 8, 1000, last - 1, last,
		last + 1, 1<<31 - 1, 1 << 31, 1 << 32, 1<<32 + 1, 1 << 40, math.MaxInt - 1, math.MaxInt,
	}
}

func isSlot(n int) bool {
	return slices.Contains([]int{0, 1, 2, 3, 6, 7, 8, 1000, last - 1, last}, n)
}

func notReplicas() []int {
	return []int{math.MinInt, math.MinInt + 1, -1 << 32, -7, -2, -1, 7, 8, 13, 14, 64, 128, 1 << 32, 1<<32 + 1, math.MaxInt}
}

// rows are dependencies with another slot for each replica, so that one replica taken for another is seen.
func rows() []api.Deps {
	return []api.Deps{
		{},
		{3, 0, 1},
		{1, 2},
		{10, 20, 30, 40, 50, 60, 70},
		{70, 60, 50, 40, 30, 20, 10},
		{0, 1, 2, last - 2, last - 1, last, 5},
		{last, last, last, last, last, last, last},
		{-1, -2, -3, -4, -5, -6, -7},
		{math.MinInt, math.MaxInt, -1, 0, 1, last + 1, 4},
	}
}

// put is d with another slot for one replica.
func put(d api.Deps, k, slot int) api.Deps {
	d[k] = slot
	return d
}

// spots are instances at all edges, and of replicas that are none.
func spots() []api.Instance {
	var l []api.Instance
	for _, slot := range slots() {
		for k := range 7 {
			l = append(l, api.Instance{Replica: k, Slot: slot})
		}
		for _, k := range notReplicas() {
			l = append(l, api.Instance{Replica: k, Slot: slot})
		}
	}
	return l
}

func TestP3_1Right(t *testing.T) {
	for _, base := range []api.Deps{{}, {1, 2, 3, 4, 5, 6, 7}, {last, last, last, last, last, last, last}} {
		for k := range 7 {
			for _, slot := range slots() {
				d := put(base, k, slot)
				if got := deps.Right(d); got != isSlot(slot) {
					t.Errorf("Right(%v) = %v", d, got)
				}
			}
		}
	}
}

func TestP3_1RightNeedsEverySlot(t *testing.T) {
	for a := range 7 {
		for b := range 7 {
			for _, d := range []api.Deps{
				put(put(api.Deps{}, a, last), b, -1),
				put(put(api.Deps{}, a, 1), b, last+1),
				put(put(api.Deps{}, a, -1), b, last+1),
			} {
				if deps.Right(d) {
					t.Errorf("Right(%v) = true", d)
				}
			}
		}
	}
}

func TestP3_1Has(t *testing.T) {
	for _, base := range rows() {
		for k := range 7 {
			for place, have := range slots() {
				d := put(base, k, have)
				for at, slot := range slots() {
					i := api.Instance{Replica: k, Slot: slot}
					want := slot > 0 && at <= place
					if got := deps.Has(d, i); got != want {
						t.Fatalf("Has(%v, %v) = %v", d, i, got)
					}
				}
			}
		}
	}
}

func TestP3_1HasOfNoReplica(t *testing.T) {
	for _, d := range rows() {
		for _, k := range notReplicas() {
			for _, slot := range slots() {
				if i := (api.Instance{Replica: k, Slot: slot}); deps.Has(d, i) {
					t.Errorf("Has(%v, %v) = true", d, i)
				}
			}
		}
	}
}

func TestP3_1Join(t *testing.T) {
	for _, c := range []struct{ a, b, want api.Deps }{
		{api.Deps{3, 0, 1}, api.Deps{1, 2}, api.Deps{3, 2, 1}}, // the chapter's example
		{api.Deps{}, api.Deps{}, api.Deps{}},
		{api.Deps{10, 20, 30, 40, 50, 60, 70}, api.Deps{70, 60, 50, 40, 30, 20, 10}, api.Deps{70, 60, 50, 40, 50, 60, 70}},
		{api.Deps{-1, -2, -3, -4, -5, -6, -7}, api.Deps{-7, -6, -5, -4, -3, -2, -1}, api.Deps{-1, -2, -3, -4, -3, -2, -1}},
		{api.Deps{-1, -1}, api.Deps{0, -2}, api.Deps{0, -1}},
		{api.Deps{math.MinInt, math.MaxInt}, api.Deps{math.MaxInt, math.MinInt}, api.Deps{math.MaxInt, math.MaxInt}},
	} {
		if got := deps.Join(c.a, c.b); got != c.want {
			t.Errorf("Join(%v, %v) = %v, want %v", c.a, c.b, got, c.want)
		}
	}
}

func TestP3_1JoinOfAnySlots(t *testing.T) {
	all := slots()
	for _, base := range rows() {
		for k := range 7 {
			for x, a := range all {
				for y, b := range all {
					greater := a
					if y > x {
						greater = b
					}
					if got, want := deps.Join(put(base, k, a), put(base, k, b)), put(base, k, greater); got != want {
						t.Fatalf("Join of %d and %d for replica %d of %v = %v", a, b, k, base, got)
					}
				}
			}
		}
	}
}

func TestP3_1Over(t *testing.T) {
	all := slots()
	for _, base := range rows() {
		for k := range 7 {
			for x, a := range all {
				for y, b := range all {
					if got := deps.Over(put(base, k, a), put(base, k, b)); got != (x >= y) {
						t.Fatalf("Over with %d and %d for replica %d of %v = %v", a, b, k, base, got)
					}
				}
			}
		}
	}
}

func TestP3_1OverNeedsEverySlot(t *testing.T) {
	base := api.Deps{5, 5, 5, 5, 5, 5, 5}
	for up := range 7 {
		if greater := put(base, up, 9); !deps.Over(greater, base) || deps.Over(base, greater) {
			t.Errorf("Over of %v and %v", greater, base)
		}
		for down := range 7 {
			if up == down {
				continue
			}
			// Neither covers the other one: each has a slot that is less.
			mixed := put(put(base, up, 9), down, 4)
			if deps.Over(mixed, base) || deps.Over(base, mixed) {
				t.Errorf("Over of %v and %v", mixed, base)
			}
		}
	}
}

func TestP3_2With(t *testing.T) {
	all := slots()
	for _, base := range rows() {
		for k := range 7 {
			for x, have := range all {
				for y, slot := range all {
					greater := have
					if y > x {
						greater = slot
					}
					d, i := put(base, k, have), api.Instance{Replica: k, Slot: slot}
					if got, want := deps.With(d, i), put(base, k, greater); got != want {
						t.Fatalf("With(%v, %v) = %v, want %v", d, i, got, want)
					}
				}
			}
		}
	}
}

func TestP3_2Without(t *testing.T) {
	all := slots()
	for _, base := range rows() {
		for k := range 7 {
			for x, have := range all {
				for y, slot := range all {
					d, i := put(base, k, have), api.Instance{Replica: k, Slot: slot}
					want := d
					if slot > 0 && x >= y {
						want[k] = slot - 1
					}
					if got := deps.Without(d, i); got != want {
						t.Fatalf("Without(%v, %v) = %v, want %v", d, i, got, want)
					}
				}
			}
		}
	}
}

func TestP3_2WithoutExamples(t *testing.T) {
	d := api.Deps{3, 0, 1, last, last + 7, -4}
	for _, c := range []struct {
		i    api.Instance
		want api.Deps
	}{
		{api.Instance{Replica: 0, Slot: 1}, api.Deps{0, 0, 1, last, last + 7, -4}},
		{api.Instance{Replica: 0, Slot: 2}, api.Deps{1, 0, 1, last, last + 7, -4}},
		{api.Instance{Replica: 0, Slot: 3}, api.Deps{2, 0, 1, last, last + 7, -4}},
		{api.Instance{Replica: 0, Slot: 4}, d},
		{api.Instance{Replica: 0, Slot: 5}, d},
		{api.Instance{Replica: 0, Slot: 0}, d},
		{api.Instance{Replica: 0, Slot: -1}, d},
		{api.Instance{Replica: 0, Slot: math.MinInt}, d},
		{api.Instance{Replica: 1, Slot: 1}, d},
		{api.Instance{Replica: 3, Slot: last}, api.Deps{3, 0, 1, last - 1, last + 7, -4}},
		{api.Instance{Replica: 3, Slot: last + 1}, d},
		{api.Instance{Replica: 4, Slot: last + 1}, api.Deps{3, 0, 1, last, last, -4}},
		{api.Instance{Replica: 4, Slot: math.MaxInt}, d},
		{api.Instance{Replica: 5, Slot: 1}, d},
	} {
		if got := deps.Without(d, c.i); got != c.want {
			t.Errorf("Without(%v, %v) = %v, want %v", d, c.i, got, c.want)
		}
	}
}

func TestP3_2NoReplica(t *testing.T) {
	for _, d := range rows() {
		for _, k := range notReplicas() {
			for _, slot := range slots() {
				i := api.Instance{Replica: k, Slot: slot}
				if got := deps.With(d, i); got != d {
					t.Errorf("With(%v, %v) = %v, want it unchanged", d, i, got)
				}
				if got := deps.Without(d, i); got != d {
					t.Errorf("Without(%v, %v) = %v, want it unchanged", d, i, got)
				}
			}
		}
	}
}

func TestP3_2Insts(t *testing.T) {
	for _, c := range []struct {
		d    api.Deps
		want []api.Instance
	}{
		{api.Deps{}, nil},
		{api.Deps{1}, []api.Instance{{Replica: 0, Slot: 1}}},
		{api.Deps{0, 0, 0, 0, 0, 0, 2}, []api.Instance{{Replica: 6, Slot: 1}, {Replica: 6, Slot: 2}}},
		{api.Deps{3, 0, 1}, []api.Instance{{Replica: 0, Slot: 1}, {Replica: 0, Slot: 2}, {Replica: 0, Slot: 3}, {Replica: 2, Slot: 1}}},
		{api.Deps{0, 2, 0, 1, 0, 1}, []api.Instance{{Replica: 1, Slot: 1}, {Replica: 1, Slot: 2}, {Replica: 3, Slot: 1}, {Replica: 5, Slot: 1}}},
	} {
		if got := deps.Insts(c.d); !slices.Equal(got, c.want) {
			t.Errorf("Insts(%v) = %v, want %v", c.d, got, c.want)
		}
		if got := deps.Count(c.d); got != len(c.want) {
			t.Errorf("Count(%v) = %d, want %d", c.d, got, len(c.want))
		}
	}
}

// The instances of a row are found a second time by asking for each one whether it is contained.
func TestP3_2InstsAreWhatIsContained(t *testing.T) {
	for _, d := range []api.Deps{{}, {3, 0, 1}, {1, 2}, {10, 20, 30, 40, 50, 60, 70}, {70, 60, 50, 40, 30, 20, 10}, {1, 1, 1, 1, 1, 1, 1}} {
		var want []api.Instance
		for k := range 7 {
			for slot := range 100 {
				if i := (api.Instance{Replica: k, Slot: slot}); deps.Has(d, i) {
					want = append(want, i)
				}
			}
		}
		if got := deps.Insts(d); !slices.Equal(got, want) {
			t.Errorf("Insts(%v) = %v, want %v", d, got, want)
		}
		if got := deps.Count(d); got != len(want) {
			t.Errorf("Count(%v) = %d, want %d", d, got, len(want))
		}
	}
}

func TestP3_2InstsOfTheGreatest(t *testing.T) {
	d := api.Deps{last, last, last, last, last, last, last}
	l := deps.Insts(d)
	if len(l) != 7*last || deps.Count(d) != 7*last {
		t.Fatalf("%d instances, Count %d, want %d", len(l), deps.Count(d), 7*last)
	}
	for n, i := range l {
		if want := (api.Instance{Replica: n / last, Slot: n%last + 1}); i != want {
			t.Fatalf("instance %d is %v, want %v", n, i, want)
		}
	}
}

func TestP3_2InstsOfInvalid(t *testing.T) {
	for _, base := range []api.Deps{{}, {5, 4, 3, 2, 1, 2, 3}} {
		for k := range 7 {
			for _, slot := range slots() {
				if isSlot(slot) {
					continue
				}
				d := put(base, k, slot)
				if l, n := deps.Insts(d), deps.Count(d); len(l) != 0 || n != 0 {
					t.Errorf("of %v: %d instances, Count %d, want none", d, len(l), n)
				}
			}
		}
	}
}

func TestP3_2InstsAreNewMemory(t *testing.T) {
	d := api.Deps{2, 0, 1}
	want := []api.Instance{{Replica: 0, Slot: 1}, {Replica: 0, Slot: 2}, {Replica: 2, Slot: 1}}
	first, second := deps.Insts(d), deps.Insts(d)
	for n := range first[:cap(first)] {
		first[:cap(first)][n] = api.Instance{Replica: -1, Slot: -1}
	}
	if !slices.Equal(second, want) || !slices.Equal(deps.Insts(d), want) {
		t.Errorf("Insts(%v) changed with another result: %v", d, second)
	}
}

func TestP3_3JoinContainsWhatOneContains(t *testing.T) {
	for _, a := range rows() {
		for _, b := range rows() {
			both := deps.Join(a, b)
			for _, i := range spots() {
				if got, want := deps.Has(both, i), deps.Has(a, i) || deps.Has(b, i); got != want {
					t.Errorf("%v: %v in the join of %v and %v, want %v", i, got, a, b, want)
				}
			}
			for k := range 7 {
				for slot := range 80 {
					i := api.Instance{Replica: k, Slot: slot}
					if got, want := deps.Has(both, i), deps.Has(a, i) || deps.Has(b, i); got != want {
						t.Errorf("%v: %v in the join of %v and %v, want %v", i, got, a, b, want)
					}
				}
			}
		}
	}
}

func TestP3_3JoinInAnyOrder(t *testing.T) {
	for _, a := range rows() {
		for _, b := range rows() {
			if x, y := deps.Join(a, b), deps.Join(b, a); x != y {
				t.Errorf("%v and %v joined: %v, the other way round %v", a, b, x, y)
			}
			if both := deps.Join(a, b); !deps.Over(both, a) || !deps.Over(both, b) {
				t.Errorf("%v and %v joined: %v does not cover both", a, b, both)
			}
			for _, c := range rows() {
				if x, y := deps.Join(deps.Join(a, b), c), deps.Join(a, deps.Join(b, c)); x != y {
					t.Errorf("%v, %v and %v joined: %v, from behind %v", a, b, c, x, y)
				}
			}
		}
	}
}

func TestP3_4AddedIsContained(t *testing.T) {
	for _, d := range rows() {
		for _, i := range spots() {
			if i.Replica < 0 || i.Replica > 6 || i.Slot < 1 {
				continue
			}
			with := deps.With(d, i)
			if !deps.Has(with, i) || !deps.Over(with, d) {
				t.Errorf("With(%v, %v) = %v lacks something", d, i, with)
			}
		}
	}
}

func TestP3_4RemovedIsNotContained(t *testing.T) {
	for _, d := range rows() {
		for _, i := range spots() {
			without := deps.Without(d, i)
			if deps.Has(without, i) || !deps.Over(d, without) {
				t.Errorf("Without(%v, %v) = %v has too much", d, i, without)
			}
			if added := deps.Without(deps.With(d, i), i); deps.Has(added, i) {
				t.Errorf("%v has %v, which was added and removed", added, i)
			}
		}
	}
}
