package quorum_test

import (
	"math"
	"slices"
	"testing"

	"althing/api"
	"althing/quorum"
)

// sets are all sets of the replicas 0 to 6, and each of them with other bits: the higher ones are of no replica.
func sets() []int {
	var l []int
	for s := range 1 << api.MaxN {
		l = append(l, s, s|1<<7, s|1<<40, s|math.MinInt, s|^127)
	}
	return l
}

func notShards() []int {
	return []int{0, 4, 5, 7, 63, 64, 1 << 40, math.MaxInt, -1, -2, -3, math.MinInt, math.MinInt + 1}
}

func notReplicas() []int {
	return []int{7, 8, 31, 32, 62, 63, 64, 65, 128, 1 << 32, 1 << 40, math.MaxInt, -1, -2, -7, -64, math.MinInt, math.MinInt + 1}
}

// in is a second way to ask for a member: by division, so that the test does not repeat the program.
func in(set, k int) bool {
	low := ((set % 128) + 128) % 128
	for range k {
		low /= 2
	}
	return low%2 == 1
}

func TestP1_1Sizes(t *testing.T) {
	for _, c := range []struct{ f, size, slow, fast, all int }{
		{1, 3, 2, 2, 7},
		{2, 5, 3, 4, 31},
		{3, 7, 4, 6, 127},
	} {
		if got := quorum.Size(c.f); got != c.size {
			t.Errorf("Size(%d) = %d, want %d", c.f, got, c.size)
		}
		if got := quorum.Slow(c.f); got != c.slow {
			t.Errorf("Slow(%d) = %d, want %d", c.f, got, c.slow)
		}
		if got := quorum.Fast(c.f); got != c.fast {
			t.Errorf("Fast(%d) = %d, want %d", c.f, got, c.fast)
		}
		if got := quorum.All(c.f); got != c.all {
			t.Errorf("All(%d) = %d, want %d", c.f, got, c.all)
		}
	}
}

func TestP1_1NoShard(t *testing.T) {
	for _, f := range notShards() {
		if a, b, c, d := quorum.Size(f), quorum.Slow(f), quorum.Fast(f), quorum.All(f); a != 0 || b != 0 || c != 0 || d != 0 {
			t.Errorf("f %d: Size %d, Slow %d, Fast %d, All %d, want 0", f, a, b, c, d)
		}
		for _, s := range sets() {
			if quorum.Major(f, s) {
				t.Errorf("Major(%d, %d) = true, want false", f, s)
			}
		}
	}
}

func TestP1_1Major(t *testing.T) {
	for f := 1; f <= 3; f++ {
		for _, s := range sets() {
			n := 0
			for k := range 2*f + 1 {
				if in(s, k) {
					n++
				}
			}
			if got := quorum.Major(f, s); got != (n >= f+1) {
				t.Errorf("Major(%d, %d) = %v with %d replicas", f, s, got, n)
			}
		}
	}
}

func TestP1_1MajorIgnoresReplicasOfNoShard(t *testing.T) {
	for _, c := range []struct {
		f, set int
		want   bool
	}{
		{1, 1 | 1<<3 | 1<<6, false},
		{1, 1 | 1<<2, true},
		{2, 3 | 1<<5 | 1<<6, false},
		{2, 7, true},
		{3, 7 | 1<<7 | 1<<8, false},
		{3, 7 | 1<<6, true},
		{1, -8, false},
		{3, -128, false},
		{3, -1, true},
		{1, math.MinInt, false},
		{1, math.MaxInt, true},
		{1, 0, false},
	} {
		if got := quorum.Major(c.f, c.set); got != c.want {
			t.Errorf("Major(%d, %d) = %v, want %v", c.f, c.set, got, c.want)
		}
	}
}

func TestP1_2Sets(t *testing.T) {
	for _, s := range sets() {
		var want []int
		for k := range 7 {
			if in(s, k) {
				want = append(want, k)
			}
			if got := quorum.Has(s, k); got != in(s, k) {
				t.Errorf("Has(%d, %d) = %v", s, k, got)
			}
		}
		if got := quorum.Count(s); got != len(want) {
			t.Errorf("Count(%d) = %d, want %d", s, got, len(want))
		}
		if got := quorum.Members(s); !slices.Equal(got, want) {
			t.Errorf("Members(%d) = %v, want %v", s, got, want)
		}
	}
}

func TestP1_2WithAndWithout(t *testing.T) {
	for _, s := range sets() {
		bit := 1
		for k := range 7 {
			with, without := s, s
			if in(s, k) {
				without = s - bit
			} else {
				with = s + bit
			}
			if got := quorum.With(s, k); got != with {
				t.Errorf("With(%d, %d) = %d, want %d", s, k, got, with)
			}
			if got := quorum.Without(s, k); got != without {
				t.Errorf("Without(%d, %d) = %d, want %d", s, k, got, without)
			}
			bit *= 2
		}
	}
}

func TestP1_2NoReplica(t *testing.T) {
	for _, s := range sets() {
		for _, k := range notReplicas() {
			if quorum.Has(s, k) {
				t.Errorf("Has(%d, %d) = true, want false", s, k)
			}
			if got := quorum.With(s, k); got != s {
				t.Errorf("With(%d, %d) = %d, want it unchanged", s, k, got)
			}
			if got := quorum.Without(s, k); got != s {
				t.Errorf("Without(%d, %d) = %d, want it unchanged", s, k, got)
			}
		}
	}
}

func TestP1_2MembersAreNewMemory(t *testing.T) {
	first := quorum.Members(127)
	second := quorum.Members(127)
	for k := range first[:cap(first)] {
		first[:cap(first)][k] = -1
	}
	if want := []int{0, 1, 2, 3, 4, 5, 6}; !slices.Equal(second, want) || !slices.Equal(quorum.Members(127), want) {
		t.Errorf("Members(127) changed with another result: %v", second)
	}
}

func TestP1_3MajoritiesMeet(t *testing.T) {
	for f := 1; f <= 3; f++ {
		majorities := 0
		for a := range quorum.All(f) + 1 {
			if !quorum.Major(f, a) {
				continue
			}
			majorities++
			for b := range quorum.All(f) + 1 {
				if quorum.Major(f, b) && quorum.Count(a&b) == 0 {
					t.Errorf("f %d: majorities %v and %v have no replica in common", f, quorum.Members(a), quorum.Members(b))
				}
			}
		}
		// Half of all sets: of a set and its complement, exactly one is a majority.
		if want := (quorum.All(f) + 1) / 2; majorities != want {
			t.Errorf("f %d: %d majorities, want %d", f, majorities, want)
		}
	}
}

func TestP1_3FastQuorumMeetsMajority(t *testing.T) {
	for f := 1; f <= 3; f++ {
		for k := range quorum.Size(f) {
			pairs := 0
			for a := range quorum.All(f) + 1 {
				if quorum.Count(a) < quorum.Fast(f) || !quorum.Has(a, k) {
					continue
				}
				for b := range quorum.All(f) + 1 {
					if !quorum.Major(f, b) || quorum.Has(b, k) {
						continue
					}
					pairs++
					if n := quorum.Count(a & b); n < f {
						t.Errorf("f %d: fast quorum %v and majority %v have %d replicas in common", f, quorum.Members(a), quorum.Members(b), n)
					}
				}
			}
			if pairs == 0 {
				t.Errorf("f %d, replica %d: nothing was compared", f, k)
			}
		}
	}
}
