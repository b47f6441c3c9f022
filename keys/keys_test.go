package keys_test

import (
	"math"
	"slices"
	"strconv"
	"strings"
	"testing"

	"althing/api"
	"althing/keys"
)

// wrong is the rune of a byte that does not begin a valid encoding.
const wrong = 65533

// word is a string with its runes and its weight, worked out by hand.
type word struct {
	s      string
	runes  []rune
	weight int
}

// words are strings of 0 to 9 bytes and more, with runes of one to four bytes and with bytes that encode none.
func words() []word {
	return []word{
		{"", nil, 0},
		{"a", []rune{97}, 97},
		{"ab", []rune{97, 98}, 293}, // the chapter's example
		{"ba", []rune{98, 97}, 292},
		{"aaa", []rune{97, 97, 97}, 582},
		{"\x00", []rune{0}, 0},
		{"\x00\x01", []rune{0, 1}, 2},
		{"\x7f", []rune{127}, 127},
		{"é", []rune{233}, 233},
		{"éa", []rune{233, 97}, 233 + 2*97},
		{"aéb", []rune{97, 233, 98}, 97 + 2*233 + 3*98},
		{"世", []rune{19990}, 19990},
		{"a世", []rune{97, 19990}, 97 + 2*19990},
		{"世a", []rune{19990, 97}, 19990 + 2*97},
		{"世界b", []rune{19990, 30028, 98}, 19990 + 2*30028 + 3*98},
		{"\U0001F600", []rune{128512}, 128512},
		{"\U0001F600z", []rune{128512, 122}, 128512 + 2*122},
		{"\U0010FFFF", []rune{1114111}, 1114111},
		{"\U0001F600\U0010FFFF", []rune{128512, 1114111}, 128512 + 2*1114111},
		{"\u0080", []rune{128}, 128},
		{"\u07ff\u0800", []rune{2047, 2048}, 2047 + 2*2048},
		{"\uffff\U00010000", []rune{65535, 65536}, 65535 + 2*65536},
		{"\ufffd", []rune{wrong}, wrong}, // the rune itself, in three bytes
		{"\xff", []rune{wrong}, wrong},
		{"\x80", []rune{wrong}, wrong}, // one that only goes on
		{"\xc3", []rune{wrong}, wrong}, // one whose second byte is missing
		{"\xc3a", []rune{wrong, 97}, wrong + 2*97},
		{"a\xffb", []rune{97, wrong, 98}, 97 + 2*wrong + 3*98},
		{"\xff\xfe", []rune{wrong, wrong}, 3 * wrong},
		{"\xc0\x80", []rune{wrong, wrong}, 3 * wrong},                          // 0 in too many bytes
		{"\xe4\xb8", []rune{wrong, wrong}, 3 * wrong},                          // two bytes of three
		{"\xe4\xb8b", []rune{wrong, wrong, 98}, 3*wrong + 3*98},                //
		{"\xed\xa0\x80", []rune{wrong, wrong, wrong}, 6 * wrong},               // a half of a pair
		{"\xf0\x9f\x98", []rune{wrong, wrong, wrong}, 6 * wrong},               // three bytes of four
		{"\xf4\x90\x80\x80", []rune{wrong, wrong, wrong, wrong}, 10 * wrong},   // beyond the last rune
		{"\xe4\xb8\x96\xb8", []rune{19990, wrong}, 19990 + 2*wrong},            // a rune, and one byte that goes on
		{"abcdefgh", []rune{97, 98, 99, 100, 101, 102, 103, 104}, 36*96 + 204}, // 8 bytes
		{"aaaaaa世", []rune{97, 97, 97, 97, 97, 97, 19990}, 21*97 + 7*19990},    // 7 runes, 9 bytes
		{"ab世界", []rune{97, 98, 19990, 30028}, 97 + 2*98 + 3*19990 + 4*30028},  // 4 runes, 8 bytes
		{"世界世", []rune{19990, 30028, 19990}, 4*19990 + 2*30028},                // 3 runes, 9 bytes
		{"\xff\xff\xff\xff\xff\xff\xff\xff", []rune{wrong, wrong, wrong, wrong, wrong, wrong, wrong, wrong}, 36 * wrong},
		{"abcdefghi", []rune{97, 98, 99, 100, 101, 102, 103, 104, 105}, 4605}, // 9 bytes
	}
}

// notShards are numbers of shards that no system has.
func notShards() []int {
	return []int{math.MinInt, math.MinInt + 1, -1 << 32, -5, -4, -3, -2, -1, 0, 5, 6, 7, 8, 16, 1 << 32, 1<<32 + 1, math.MaxInt}
}

// notKeys are too short or too long, in bytes.
func notKeys() []string {
	return []string{"", "abcdefghi", "世界世", "éééé\x00", strings.Repeat("\xff", 9), strings.Repeat("a", 16), strings.Repeat("b", 256), strings.Repeat("世", 1<<16)}
}

// manyKeys are all keys of up to 2 of some bytes, which may make a rune of two bytes and may not.
func manyKeys() []string {
	some := []string{"\x00", "\x01", "a", "b", "c", "z", "\x7f", "\x80", "\xa9", "\xc3", "\xc4", "\xff"}
	l := slices.Clone(some)
	for _, a := range some {
		for _, b := range some {
			l = append(l, a+b)
		}
	}
	return l
}

func isKey(s string) bool {
	return s != "" && !slices.Contains(notKeys(), s) && s != "aaaaaa世"
}

// with is l, and behind it spare capacity that is filled, so that a call that writes there is seen.
func with(l ...string) (list, whole []string) {
	whole = append(slices.Clone(l), "spare", "spare", "spare")
	return whole[:len(l)], whole
}

// spoil overwrites a result and its spare capacity.
func spoil[T any](l []T, by T) {
	l = l[:cap(l)]
	for i := range l {
		l[i] = by
	}
}

func TestP4_1Right(t *testing.T) {
	for n := range 40 {
		for _, part := range []string{"a", "\x00", "\xff"} {
			if s := strings.Repeat(part, n); keys.Right(s) != (n >= 1 && n <= 8) {
				t.Errorf("Right of %q, %d bytes: %v", part, n, keys.Right(s))
			}
		}
	}
	for _, s := range notKeys() {
		if keys.Right(s) {
			t.Errorf("Right(%.20q) = true", s)
		}
	}
	for _, w := range words() {
		if keys.Right(w.s) != isKey(w.s) {
			t.Errorf("Right(%q) = %v", w.s, keys.Right(w.s))
		}
	}
	for _, s := range []string{"éééé", "\U0001F600\U0010FFFF", "ab世界", " ", "\n", "a b", "="} {
		if !keys.Right(s) {
			t.Errorf("Right(%q) = false", s)
		}
	}
}

func TestP4_1Runes(t *testing.T) {
	for _, w := range words() {
		if got := keys.Runes(w.s); !slices.Equal(got, w.runes) {
			t.Errorf("Runes(%q) = %v, want %v", w.s, got, w.runes)
		}
	}
}

func TestP4_1Weight(t *testing.T) {
	for _, w := range words() {
		if got := keys.Weight(w.s); got != w.weight {
			t.Errorf("Weight(%q) = %d, want %d", w.s, got, w.weight)
		}
	}
}

// Every byte alone: from 128 on, it begins no valid encoding.
func TestP4_1RunesOfEachByte(t *testing.T) {
	for b := range 256 {
		s, want := string([]byte{byte(b)}), rune(b)
		if b >= 128 {
			want = wrong
		}
		if got := keys.Runes(s); !slices.Equal(got, []rune{want}) || keys.Weight(s) != int(want) {
			t.Errorf("Runes(%q) = %v, Weight %d, want %d", s, got, keys.Weight(s), want)
		}
	}
}

// Every rune alone, but for those that have no encoding.
func TestP4_1RunesOfEachRune(t *testing.T) {
	for n := range 0x110000 {
		if n >= 0xd800 && n < 0xe000 {
			continue
		}
		s := string(rune(n))
		if got := keys.Runes(s); len(got) != 1 || int(got[0]) != n || keys.Weight(s) != n {
			t.Fatalf("Runes(%q) = %v, Weight %d, want %d", s, got, keys.Weight(s), n)
		}
	}
}

// Weight is promised of any string, not of keys alone.
func TestP4_1LongStrings(t *testing.T) {
	for _, n := range []int{9, 10, 255, 256, 1000, 1 << 16} {
		sum := n * (n + 1) / 2
		for _, c := range []struct {
			part string
			rune int
		}{{"a", 97}, {"é", 233}, {"世", 19990}, {"\U0010FFFF", 1114111}, {"\xff", wrong}} {
			s := strings.Repeat(c.part, n)
			if got := keys.Weight(s); got != sum*c.rune {
				t.Errorf("Weight of %d times %q = %d, want %d", n, c.part, got, sum*c.rune)
			}
			runes := keys.Runes(s)
			if len(runes) != n || int(runes[0]) != c.rune || int(runes[n-1]) != c.rune {
				t.Errorf("Runes of %d times %q: %d runes", n, c.part, len(runes))
			}
		}
	}
}

func TestP4_1RunesAreNewMemory(t *testing.T) {
	want := []rune{97, wrong, 19990}
	first, second := keys.Runes("a\xff世"), keys.Runes("a\xff世")
	spoil(first, -1)
	if !slices.Equal(second, want) || !slices.Equal(keys.Runes("a\xff世"), want) {
		t.Errorf("Runes changed with another result: %v", second)
	}
}

func TestP4_1Shard(t *testing.T) {
	if n, err := keys.Shard("ab", 3); n != 2 || err != api.OK {
		t.Errorf(`Shard("ab", 3) = %d, %d`, n, err)
	}
	for _, w := range words() {
		for shards := 1; shards <= 4; shards++ {
			want, wantErr := w.weight%shards, api.OK
			if !isKey(w.s) {
				want, wantErr = 0, api.ErrArg
			}
			if n, err := keys.Shard(w.s, shards); n != want || err != wantErr {
				t.Errorf("Shard(%q, %d) = %d, %d, want %d, %d", w.s, shards, n, err, want, wantErr)
			}
		}
	}
}

func TestP4_1ShardOfInvalid(t *testing.T) {
	for _, shards := range notShards() {
		for _, w := range words() {
			if n, err := keys.Shard(w.s, shards); n != 0 || err != api.ErrArg {
				t.Errorf("Shard(%q, %d) = %d, %d", w.s, shards, n, err)
			}
		}
	}
	for _, s := range notKeys() {
		for _, shards := range append(notShards(), 1, 2, 3, 4) {
			if n, err := keys.Shard(s, shards); n != 0 || err != api.ErrArg {
				t.Errorf("Shard(%.20q, %d) = %d, %d", s, shards, n, err)
			}
		}
	}
}

func TestP4_1Rights(t *testing.T) {
	for _, c := range []struct {
		l    []string
		want bool
	}{
		{nil, true},
		{[]string{}, true},
		{[]string{"a"}, true},
		{[]string{"\x00"}, true},
		{[]string{"abcdefgh"}, true},
		{[]string{"abcdefghi"}, false},
		{[]string{""}, false},
		{[]string{"", "a"}, false},
		{[]string{"a", ""}, false},
		{[]string{"a", "b"}, true},
		{[]string{"b", "a"}, false},
		{[]string{"a", "a"}, false},
		{[]string{"a", "b", "b"}, false},
		{[]string{"a", "b", "a"}, false},
		{[]string{"b", "a", "c"}, false},
		{[]string{"a", "c", "b", "d"}, false},
		{[]string{"a", "ab", "b"}, true},
		{[]string{"ab", "a"}, false},
		{[]string{"a", "a\x00"}, true},
		{[]string{"B", "a"}, true},
		{[]string{"a", "B"}, false},
		{[]string{"10", "9"}, true},
		{[]string{"9", "10"}, false},
		{[]string{"a", "abcdefghi", "b"}, false},
		{[]string{"abcdefghi", "b"}, false},
		{[]string{"a", "b", "ccccccccc"}, false},
		{[]string{"世", "\xff"}, true},
		{[]string{"\xff", "世"}, false},
		// The bytes decide, not the runes: 65533 for \x80 would be behind 233.
		{[]string{"\x80", "é"}, true},
		{[]string{"é", "\x80"}, false},
		{[]string{"\xfe", "\xff"}, true}, // both have the rune 65533
		{[]string{"\xff", "\xfe"}, false},
		{[]string{"\ufffd", "\U0001F600"}, true},
		{[]string{"a", "b", "c", "d", "e", "f", "g"}, true},
		{[]string{"a", "b", "c", "d", "e", "f", "g", "h"}, true},
		{[]string{"a", "b", "c", "d", "e", "f", "h", "g"}, false},
		{[]string{"b", "a", "c", "d", "e", "f", "g", "h"}, false},
		{[]string{"a", "b", "c", "d", "e", "f", "g", "g"}, false},
		{[]string{"a", "b", "c", "d", "e", "f", "g", "h", "i"}, false},
		{[]string{"a", "b", "c", "d", "e", "f", "g", "h", "i", "j"}, false},
	} {
		if got := keys.Rights(c.l); got != c.want {
			t.Errorf("Rights(%q) = %v", c.l, got)
		}
	}
}

func TestP4_1RightsOfManyKeys(t *testing.T) {
	var l []string
	for n := range 1000 {
		if got := keys.Rights(l); got != (n <= 8) {
			t.Errorf("Rights of %d keys = %v", n, got)
		}
		l = append(l, strconv.Itoa(1000+n))
	}
}

func TestP4_1RightsNeedsEachKey(t *testing.T) {
	for _, bad := range notKeys() {
		for at := range 8 {
			l := []string{"a", "b", "c", "d", "e", "f", "g", "h"}
			l[at] = bad
			if keys.Rights(l) {
				t.Errorf("Rights(%.20q) = true", l)
			}
		}
	}
	// Increasing in spite of its length, so that nothing but the length is wrong.
	for at := range 8 {
		l := []string{"a", "b", "c", "d", "e", "f", "g", "h"}
		l[at] += "aaaaaaaa"
		if keys.Rights(l) {
			t.Errorf("Rights(%q) = true", l)
		}
		l[at] = l[at][:8]
		if !keys.Rights(l) {
			t.Errorf("Rights(%q) = false", l)
		}
	}
}

func TestP4_2Mask(t *testing.T) {
	for _, c := range []struct {
		l      []string
		shards int
		want   int
	}{
		{nil, 1, 0},
		{[]string{}, 4, 0},
		{[]string{"a"}, 1, 1},
		{[]string{"a", "b", "c", "d"}, 1, 1},
		{[]string{"a"}, 2, 2},
		{[]string{"b"}, 2, 1},
		{[]string{"a", "b", "c", "d"}, 2, 3},
		{[]string{"ab"}, 3, 4},
		{[]string{"a"}, 4, 2},
		{[]string{"b"}, 4, 4},
		{[]string{"c"}, 4, 8},
		{[]string{"d"}, 4, 1},
		{[]string{"c", "a"}, 4, 10},
		{[]string{"a", "a", "e"}, 4, 2},
		{[]string{"d", "c", "b", "a"}, 4, 15},
		{[]string{"a", "b", "c", "e", "f", "g", "i", "j", "k"}, 4, 14}, // 9 keys
		{[]string{"\xff"}, 4, 2},
		{[]string{"世", "é"}, 4, 6},
	} {
		if got, err := keys.Mask(c.l, c.shards); got != c.want || err != api.OK {
			t.Errorf("Mask(%q, %d) = %d, %d, want %d", c.l, c.shards, got, err, c.want)
		}
	}
}

func TestP4_2MaskOfInvalid(t *testing.T) {
	for _, bad := range notKeys() {
		for shards := 1; shards <= 4; shards++ {
			for _, l := range [][]string{{bad}, {bad, "a", "b"}, {"a", bad, "b"}, {"a", "b", "c", "d", bad}} {
				if got, err := keys.Mask(l, shards); got != 0 || err != api.ErrArg {
					t.Errorf("Mask(%.20q, %d) = %d, %d", l, shards, got, err)
				}
			}
		}
	}
	for _, shards := range notShards() {
		for _, l := range [][]string{{"a"}, {"a", "b", "c", "d"}, {""}} {
			if got, err := keys.Mask(l, shards); got != 0 || err != api.ErrArg {
				t.Errorf("Mask(%q, %d) = %d, %d", l, shards, got, err)
			}
		}
	}
}

// Of no keys none has an error, whatever the number of shards.
func TestP4_2MaskOfNone(t *testing.T) {
	for _, shards := range append(notShards(), 1, 2, 3, 4) {
		for _, l := range [][]string{nil, {}} {
			if got, err := keys.Mask(l, shards); got != 0 || err != api.OK {
				t.Errorf("Mask of none, %d shards = %d, %d", shards, got, err)
			}
		}
	}
}

func TestP4_2Of(t *testing.T) {
	for _, c := range []struct {
		l             []string
		shard, shards int
		want          []string
	}{
		{nil, 0, 1, nil},
		{[]string{}, 0, 4, nil},
		{[]string{"a", "b", "c", "d"}, 0, 1, []string{"a", "b", "c", "d"}},
		{[]string{"a", "b", "c", "d"}, 1, 1, nil},
		{[]string{"a", "b", "c", "d"}, 1, 2, []string{"a", "c"}},
		{[]string{"a", "b", "c", "d"}, 0, 2, []string{"b", "d"}},
		{[]string{"a", "b", "c", "d"}, 2, 2, nil},
		{[]string{"d", "c", "b", "a"}, 1, 2, []string{"c", "a"}},
		{[]string{"c", "a", "b", "c", "a"}, 1, 2, []string{"c", "a", "c", "a"}},
		{[]string{"a", "b", "c", "d"}, 3, 4, []string{"c"}},
		{[]string{"a", "b", "c", "d"}, 0, 4, []string{"d"}},
		{[]string{"ab", "a", "b"}, 2, 3, []string{"ab", "b"}},
		{[]string{"a", "b", "c", "e", "f", "g", "i", "j", "k"}, 1, 4, []string{"a", "e", "i"}},
		// What is no key belongs to no shard.
		{[]string{"", "b", "abcdefghi", "d"}, 0, 2, []string{"b", "d"}},
		{[]string{"", "a", "abcdefghi", "c"}, 0, 2, nil},
		{[]string{"", "a", "abcdefghi", "c"}, 1, 2, []string{"a", "c"}},
		{notKeys(), 0, 1, nil},
		{notKeys(), 1, 2, nil},
	} {
		if got := keys.Of(c.l, c.shard, c.shards); !slices.Equal(got, c.want) {
			t.Errorf("Of(%.20q, %d, %d) = %q, want %q", c.l, c.shard, c.shards, got, c.want)
		}
	}
}

func TestP4_2OfNoShard(t *testing.T) {
	l := append(notKeys(), manyKeys()...)
	numbers := append(notShards(), 1, 2, 3, 4)
	for _, shard := range numbers {
		for _, shards := range numbers {
			if shard >= 0 && shard < shards && shards <= 4 {
				continue
			}
			if got := keys.Of(l, shard, shards); len(got) != 0 {
				t.Errorf("Of(.., %d, %d) = %q", shard, shards, got)
			}
		}
	}
}

func TestP4_2Join(t *testing.T) {
	for _, c := range []struct{ a, b, want []string }{
		{nil, nil, nil},
		{nil, []string{}, nil},
		{[]string{}, []string{}, nil},
		{[]string{"a"}, nil, []string{"a"}},
		{nil, []string{"a"}, []string{"a"}},
		{[]string{"a"}, []string{"a"}, []string{"a"}},
		{[]string{"a", "a"}, nil, []string{"a"}},
		{nil, []string{"a", "b", "a"}, []string{"a", "b"}},
		{[]string{"c", "a"}, []string{"b", "a"}, []string{"a", "b", "c"}},
		{[]string{"b", "d"}, []string{"a", "c"}, []string{"a", "b", "c", "d"}},
		{[]string{"d", "c"}, []string{"b", "a"}, []string{"a", "b", "c", "d"}},
		{[]string{"b", "b", "a"}, []string{"b", "c", "c"}, []string{"a", "b", "c"}},
		{[]string{""}, nil, []string{""}},
		{[]string{"a", ""}, []string{"", "a"}, []string{"", "a"}},
		{[]string{"b", "ab"}, []string{"a", "abc"}, []string{"a", "ab", "abc", "b"}},
		{[]string{"a", "B"}, []string{"10", "9"}, []string{"10", "9", "B", "a"}},
		{[]string{"a\x00"}, []string{"a"}, []string{"a", "a\x00"}},
		{[]string{"\xff", "世"}, []string{"é", "\x80", "z"}, []string{"z", "\x80", "é", "世", "\xff"}},
		{[]string{"\xff", "\xfe"}, []string{"\ufffd"}, []string{"\ufffd", "\xfe", "\xff"}}, // the same rune, but other bytes
		{[]string{"abcdefghi"}, []string{"abcdefghj", "abcdefgh"}, []string{"abcdefgh", "abcdefghi", "abcdefghj"}},
		{[]string{"i", "h", "g", "f", "e"}, []string{"a", "b", "c", "d", "e"}, []string{"a", "b", "c", "d", "e", "f", "g", "h", "i"}},
	} {
		if got := keys.Join(c.a, c.b); !slices.Equal(got, c.want) {
			t.Errorf("Join(%q, %q) = %q, want %q", c.a, c.b, got, c.want)
		}
		if got := keys.Join(c.b, c.a); !slices.Equal(got, c.want) {
			t.Errorf("Join(%q, %q) = %q, want %q", c.b, c.a, got, c.want)
		}
	}
}

func TestP4_2JoinOfManyStrings(t *testing.T) {
	var a, b, want []string
	for n := range 5000 {
		s := strconv.Itoa(10000 + n)
		want = append(want, s)
		if n%2 == 0 || n%3 == 0 {
			a = append(a, s, s)
		}
		if n%2 != 0 || n%5 == 0 {
			b = append(b, s)
		}
	}
	slices.Reverse(a)
	for range 3 {
		if got := keys.Join(a, b); !slices.Equal(got, want) {
			t.Errorf("Join of many: %d strings, want %d", len(got), len(want))
		}
	}
}

func TestP4_2Meet(t *testing.T) {
	for _, c := range []struct {
		a, b []string
		want bool
	}{
		{nil, nil, false},
		{[]string{}, nil, false},
		{[]string{"a"}, nil, false},
		{[]string{""}, nil, false},
		{[]string{"a"}, []string{}, false},
		{[]string{"a"}, []string{"a"}, true},
		{[]string{"a"}, []string{"b"}, false},
		{[]string{"a", "a"}, []string{"b", "b"}, false},
		{[]string{"a", "b"}, []string{"b", "a"}, true},
		{[]string{"a", "b", "c", "d"}, []string{"x", "d"}, true},
		{[]string{"a", "b", "c", "d"}, []string{"a", "x"}, true},
		{[]string{"a", "b", "c", "d"}, []string{"x", "c", "y"}, true},
		{[]string{"d", "a", "c"}, []string{"b", "d"}, true},
		{[]string{"a", "c", "e"}, []string{"b", "d", "f"}, false},
		{[]string{""}, []string{""}, true},
		{[]string{"", "a"}, []string{"b", ""}, true},
		{[]string{""}, []string{"a"}, false},
		{[]string{"a"}, []string{"ab"}, false},
		{[]string{"a"}, []string{"A"}, false},
		{[]string{"a"}, []string{"a\x00"}, false},
		{[]string{"\xff"}, []string{"\xfe"}, false}, // the same rune, but other bytes
		{[]string{"\xff"}, []string{"\ufffd"}, false},
		{[]string{"\xff"}, []string{"\xff"}, true},
		{[]string{"abcdefghi"}, []string{"abcdefgh", "abcdefghj"}, false},
		{[]string{"abcdefghi"}, []string{"abcdefgh", "abcdefghi"}, true},
	} {
		if got := keys.Meet(c.a, c.b); got != c.want {
			t.Errorf("Meet(%q, %q) = %v", c.a, c.b, got)
		}
		if got := keys.Meet(c.b, c.a); got != c.want {
			t.Errorf("Meet(%q, %q) = %v", c.b, c.a, got)
		}
	}
}

func TestP4_2ArgumentsStayAsTheyAre(t *testing.T) {
	a, wholeA := with("c", "a", "", "c")
	b, wholeB := with("b", "a", "abcdefghi")
	beforeA, beforeB := slices.Clone(wholeA), slices.Clone(wholeB)
	keys.Rights(a)
	keys.Mask(a, 2)
	spoil(keys.Of(a, 1, 2), "other")
	spoil(keys.Join(a, b), "other")
	spoil(keys.Join(a, nil), "other")
	spoil(keys.Join(nil, b), "other")
	keys.Meet(a, b)
	if !slices.Equal(wholeA, beforeA) || !slices.Equal(wholeB, beforeB) {
		t.Errorf("the arguments are now %q and %q", wholeA, wholeB)
	}
}

// The lists are such that a result equals its argument, which must not be handed back itself.
func TestP4_2ResultsAreNewMemory(t *testing.T) {
	a, whole := with("a", "c", "e")
	before := slices.Clone(whole)
	results := [][]string{
		keys.Of(a, 1, 2), keys.Join(a, nil), keys.Join(nil, a), keys.Join(a, a),
		keys.Of(a, 1, 2), keys.Join(a, nil), keys.Join(nil, a), keys.Join(a, a),
	}
	for n, l := range results {
		if !slices.Equal(l, a) {
			t.Fatalf("result %d: %q, want %q", n, l, a)
		}
		spoil(l, strconv.Itoa(n))
	}
	if !slices.Equal(whole, before) {
		t.Errorf("the argument is now %q", whole)
	}
	spoil(a, "x")
	for n, l := range results {
		if own := strconv.Itoa(n); !slices.Equal(l, []string{own, own, own}) {
			t.Errorf("result %d shares memory: %q", n, l)
		}
	}
}

func TestP4_3EachKeyInOneShard(t *testing.T) {
	for shards := 1; shards <= 4; shards++ {
		for _, key := range manyKeys() {
			own, err := keys.Shard(key, shards)
			if err != api.OK || own < 0 || own >= shards {
				t.Fatalf("Shard(%q, %d) = %d, %d", key, shards, own, err)
			}
			if mask, err := keys.Mask([]string{key}, shards); mask != 1<<own || err != api.OK {
				t.Errorf("Mask of %q, %d shards = %d, %d, want only shard %d", key, shards, mask, err, own)
			}
			for shard := range shards {
				got := keys.Of([]string{key}, shard, shards)
				if want := shard == own; slices.Equal(got, []string{key}) != want || len(got) > 1 {
					t.Errorf("%q is of shard %d, but Of(.., %d, %d) = %q", key, own, shard, shards, got)
				}
			}
		}
	}
}

func TestP4_3AllShardsHaveAllKeys(t *testing.T) {
	all := manyKeys()
	slices.Sort(all)
	for shards := 1; shards <= 4; shards++ {
		var together []string
		count, full := 0, 0
		for shard := range shards {
			some := keys.Of(all, shard, shards)
			if len(some) > 0 {
				full |= 1 << shard
			}
			if keys.Meet(together, some) {
				t.Errorf("shard %d of %d has keys of others", shard, shards)
			}
			count += len(some)
			together = keys.Join(together, some)
		}
		if count != len(all) || !slices.Equal(together, all) {
			t.Errorf("%d shards have %d keys of %d", shards, count, len(all))
		}
		if mask, err := keys.Mask(all, shards); mask != full || mask != 1<<shards-1 || err != api.OK {
			t.Errorf("Mask of all, %d shards = %d, %d", shards, mask, err)
		}
	}
}
