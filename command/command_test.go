package command_test

import (
	"math"
	"slices"
	"strconv"
	"strings"
	"testing"

	"althing/api"
	"althing/command"
	"althing/keys"
)

const top = 1 << 40 // the greatest number of times and names

// some is a Validate that reads a and c and writes b and c, at 5 of client 1.
func some() api.Command {
	return api.Command{
		Kind:   api.Validate,
		Txn:    api.Txn{Client: 1, Number: 2},
		At:     api.Stamp{Time: 5, Client: 1},
		Shards: 3,
		Reads:  []api.Read{{Key: "a", Version: api.Stamp{Time: 4, Client: 2}}, {Key: "c"}},
		Writes: []api.Write{{Key: "b", Value: "1"}, {Key: "c", Value: ""}},
	}
}

// changed is some with a change.
func changed(change func(c *api.Command)) api.Command {
	c := some()
	change(&c)
	return c
}

func asDecide(c api.Command, commit bool) api.Command {
	c.Kind, c.Commit = api.Decide, commit
	return c
}

func reads(l ...string) []api.Read {
	var out []api.Read
	for _, key := range l {
		out = append(out, api.Read{Key: key})
	}
	return out
}

func writes(l ...string) []api.Write {
	var out []api.Write
	for _, key := range l {
		out = append(out, api.Write{Key: key, Value: "v" + key[:min(1, len(key))]})
	}
	return out
}

// letters are n keys that strictly increase.
func letters(n int) []string {
	var l []string
	for k := range n {
		l = append(l, string(rune(97+k)))
	}
	return l
}

// notKinds are no kinds of commands.
func notKinds() []int {
	return []int{math.MinInt, -1 << 32, -2, -1, 3, 4, 5, 8, 257, 1 << 32, 1<<32 + 1, math.MaxInt}
}

// notShards are numbers of shards that no system has.
func notShards() []int {
	return []int{math.MinInt, -1 << 32, -4, -2, -1, 0, 5, 6, 8, 1 << 32, 1<<32 + 1, math.MaxInt}
}

// notLists are lists of keys that are no valid keys.
func notLists() [][]string {
	return [][]string{
		{""}, {"", "a"}, {"a", ""}, {"abcdefghi"}, {"a", "abcdefghi", "b"}, {"世界世"},
		{"a", "a"}, {"b", "a"}, {"a", "b", "b"}, {"a", "c", "b"}, {"ab", "a"}, {"\xff", "世"},
		letters(9), letters(10), {"a", "b", "c", "d", "e", "f", "g", "g"}, {"a", "b", "c", "d", "e", "f", "h", "g"},
	}
}

// validOnes are valid commands of all kinds; no two are the same.
func validOnes() []api.Command {
	l := []api.Command{
		some(),
		changed(func(c *api.Command) { c.Reads = nil }),
		changed(func(c *api.Command) { c.Writes = nil }),
		changed(func(c *api.Command) { c.Reads, c.Writes = reads("ab"), nil }),
		changed(func(c *api.Command) { c.Reads, c.Writes = nil, writes("世", "\xff") }),
		changed(func(c *api.Command) { c.Reads, c.Writes = reads(letters(8)...), writes(letters(8)...) }),
		changed(func(c *api.Command) { c.Reads, c.Writes = reads(letters(8)...), writes(letters(16)[8:]...) }),
		changed(func(c *api.Command) { c.Reads, c.Writes = reads("e", "f", "g"), writes("aa", "abcdefgh", "h") }),
		changed(func(c *api.Command) { c.Shards = 15 }),
		changed(func(c *api.Command) { c.Txn.Number, c.At.Time = top, top }),
		changed(func(c *api.Command) { c.Txn.Number = 3; c.Reads, c.Writes = reads("x"), writes("y") }),
		changed(func(c *api.Command) { c.Txn.Client, c.At.Client = 2, 2; c.Reads, c.Writes = reads("x"), nil }),
		changed(func(c *api.Command) { c.Txn.Client, c.At.Client = 0, 0; c.Reads, c.Writes = nil, writes("y") }),
	}
	for _, c := range slices.Clone(l) {
		l = append(l, asDecide(c, false), asDecide(c, true))
	}
	return append(l, api.Command{})
}

// invalidOnes are not valid; no two are the same.
func invalidOnes() []api.Command {
	return []api.Command{
		{Commit: true},
		{Shards: 1},
		{Kind: api.Validate},
		{Kind: api.Decide},
		{Kind: 3},
		{Kind: -1, Reads: reads("a")},
		{Reads: reads("a")},
		{Writes: writes("a")},
		changed(func(c *api.Command) { c.Kind = api.Noop }),
		changed(func(c *api.Command) { c.Kind = 3 }),
		changed(func(c *api.Command) { c.Commit = true }),
		changed(func(c *api.Command) { c.Txn = api.Txn{} }),
		changed(func(c *api.Command) { c.Txn.Number = -1 }),
		changed(func(c *api.Command) { c.At = api.Stamp{} }),
		changed(func(c *api.Command) { c.At.Time = math.MinInt }),
		changed(func(c *api.Command) { c.At.Client = 2 }),
		changed(func(c *api.Command) { c.Shards = 16 }),
		changed(func(c *api.Command) { c.Reads, c.Writes = nil, nil }),
		changed(func(c *api.Command) { c.Reads = reads("b", "a", "b", "") }),
		changed(func(c *api.Command) { c.Writes = writes("z", "", "abcdefghi", "z") }),
		changed(func(c *api.Command) { c.Writes = writes(letters(9)...) }),
		asDecide(changed(func(c *api.Command) { c.Reads[0].Version = c.At }), true),
		asDecide(changed(func(c *api.Command) { c.Writes[0].Value = "123456789" }), false),
	}
}

// deep is c in other memory, made by hand.
func deep(c api.Command) api.Command {
	c.Reads, c.Writes = slices.Concat(c.Reads), slices.Concat(c.Writes)
	return c
}

// equal holds commands against each other without command.Same.
func equal(a, b api.Command) bool {
	return a.Kind == b.Kind && a.Txn == b.Txn && a.At == b.At && a.Shards == b.Shards && a.Commit == b.Commit &&
		slices.Equal(a.Reads, b.Reads) && slices.Equal(a.Writes, b.Writes)
}

// spoil overwrites the lists of a command and their spare capacity.
func spoil(c api.Command, by string) {
	for i := range c.Reads[:cap(c.Reads)] {
		c.Reads[:cap(c.Reads)][i] = api.Read{Key: by, Version: api.Stamp{Time: -1}}
	}
	for i := range c.Writes[:cap(c.Writes)] {
		c.Writes[:cap(c.Writes)][i] = api.Write{Key: by, Value: by}
	}
}

// withSpare is c with filled spare capacity behind its lists, and a function that tells whether c and that are as they were.
func withSpare(c api.Command) (api.Command, func() bool) {
	allReads := append(slices.Clone(c.Reads), reads("s1", "s2", "s3")...)
	allWrites := append(slices.Clone(c.Writes), writes("s1", "s2", "s3")...)
	beforeReads, beforeWrites := slices.Clone(allReads), slices.Clone(allWrites)
	c.Reads, c.Writes = allReads[:len(c.Reads)], allWrites[:len(c.Writes)]
	return c, func() bool {
		return slices.Equal(allReads, beforeReads) && slices.Equal(allWrites, beforeWrites)
	}
}

func TestP5_1RightOfValid(t *testing.T) {
	for _, c := range validOnes() {
		if !command.Right(c) {
			t.Errorf("Right(%v) = false", c)
		}
	}
}

func TestP5_1RightOfInvalid(t *testing.T) {
	for _, c := range invalidOnes() {
		if command.Right(c) {
			t.Errorf("Right(%v) = true", c)
		}
	}
}

func TestP5_1RightNoop(t *testing.T) {
	for _, c := range []api.Command{{}, {Reads: []api.Read{}}, {Writes: []api.Write{}}, {Reads: []api.Read{}, Writes: []api.Write{}}} {
		if !command.Right(c) {
			t.Errorf("Right of a Noop with nothing in it = false: %v", c)
		}
	}
	empty, _ := withSpare(api.Command{})
	if !command.Right(empty) {
		t.Error("Right of a Noop whose lists are empty, with a capacity = false")
	}
	for _, c := range []api.Command{
		{Txn: api.Txn{Client: 1}},
		{Txn: api.Txn{Number: 1}},
		{At: api.Stamp{Time: 1}},
		{At: api.Stamp{Client: 1}},
		{Shards: 1},
		{Shards: -1},
		{Reads: make([]api.Read, 1)},
		{Writes: make([]api.Write, 1)},
		{Commit: true},
		{Reads: reads("a")},
		{Writes: writes("a")},
		changed(func(c *api.Command) { c.Kind = api.Noop }),
	} {
		if command.Right(c) {
			t.Errorf("Right of a Noop with something in it = true: %v", c)
		}
	}
}

func TestP5_1RightKind(t *testing.T) {
	for _, kind := range notKinds() {
		for _, commit := range []bool{false, true} {
			if c := changed(func(c *api.Command) { c.Kind, c.Commit = kind, commit }); command.Right(c) {
				t.Errorf("Right of kind %d, Commit %v = true", kind, commit)
			}
		}
		if command.Right(api.Command{Kind: kind}) {
			t.Errorf("Right of kind %d with nothing in it = true", kind)
		}
	}
}

func TestP5_1RightCommit(t *testing.T) {
	for _, c := range []struct {
		kind         int
		commit, want bool
	}{
		{api.Noop, false, false}, {api.Noop, true, false}, {api.Validate, false, true}, {api.Validate, true, false}, {api.Decide, false, true}, {api.Decide, true, true},
	} {
		if got := command.Right(changed(func(d *api.Command) { d.Kind, d.Commit = c.kind, c.commit })); got != c.want {
			t.Errorf("Right of kind %d, Commit %v = %v", c.kind, c.commit, got)
		}
	}
}

// checkBoth holds Right of a Validate and of both Decides with that change against what is wanted.
func checkBoth(t *testing.T, want bool, what string, change func(c *api.Command)) {
	t.Helper()
	c := changed(change)
	for _, d := range []api.Command{c, asDecide(c, false), asDecide(c, true)} {
		if got := command.Right(d); got != want {
			t.Errorf("%s: Right(%.300v) = %v", what, d, got)
		}
	}
}

func TestP5_1RightName(t *testing.T) {
	for _, n := range []int{1, 2, 1 << 20, 1 << 32, top - 1, top} {
		checkBoth(t, true, "number", func(c *api.Command) { c.Txn.Number = n })
	}
	for _, n := range []int{math.MinInt, -top, -1, 0, top + 1, math.MaxInt} {
		checkBoth(t, false, "number", func(c *api.Command) { c.Txn.Number = n })
	}
	for client := range 4 {
		checkBoth(t, true, "client", func(c *api.Command) { c.Txn.Client, c.At.Client = client, client })
	}
	// Both clients are the same, so that nothing but the range is wrong.
	for _, client := range []int{math.MinInt, -1, 4, 5, 7, 1 << 32, math.MaxInt} {
		checkBoth(t, false, "client", func(c *api.Command) { c.Txn.Client, c.At.Client = client, client })
	}
}

func TestP5_1RightClientOfAt(t *testing.T) {
	for name := range 4 {
		for at := range 4 {
			checkBoth(t, name == at, "clients", func(c *api.Command) { c.Txn.Client, c.At.Client = name, at })
		}
	}
	for _, client := range []int{math.MinInt, -1, 4, 1<<32 + 1, math.MaxInt} {
		checkBoth(t, false, "client of At", func(c *api.Command) { c.At.Client = client })
		checkBoth(t, false, "client of Txn", func(c *api.Command) { c.Txn.Client = client })
	}
}

func TestP5_1RightTime(t *testing.T) {
	for _, time := range []int{1, 2, 1 << 32, top - 1, top} {
		checkBoth(t, true, "time", func(c *api.Command) { c.At.Time, c.Reads = time, reads("a", "c") })
		checkBoth(t, true, "time, no reads", func(c *api.Command) { c.At.Time, c.Reads = time, nil })
	}
	for _, time := range []int{math.MinInt, -top, -1, 0, top + 1, math.MaxInt} {
		checkBoth(t, false, "time", func(c *api.Command) { c.At.Time, c.Reads = time, reads("a", "c") })
		checkBoth(t, false, "time, no reads", func(c *api.Command) { c.At.Time, c.Reads = time, nil })
	}
}

func TestP5_1RightShards(t *testing.T) {
	for shards := -20; shards <= 40; shards++ {
		checkBoth(t, shards >= 1 && shards <= 15, "shards", func(c *api.Command) { c.Shards = shards })
	}
	for _, shards := range []int{math.MinInt, -1 << 32, 1 << 32, 1<<32 + 1, math.MaxInt} {
		checkBoth(t, false, "shards", func(c *api.Command) { c.Shards = shards })
	}
}

func TestP5_1RightLists(t *testing.T) {
	for r := range 12 {
		for w := range 12 {
			want := r <= 8 && w <= 8 && r+w > 0
			checkBoth(t, want, "lists", func(c *api.Command) { c.Reads, c.Writes = reads(letters(r)...), writes(letters(w)...) })
		}
	}
	// The limit is that of each list, not of both together.
	checkBoth(t, true, "16 keys", func(c *api.Command) { c.Reads, c.Writes = reads(letters(8)...), writes(letters(16)[8:]...) })
	checkBoth(t, false, "nil lists", func(c *api.Command) { c.Reads, c.Writes = nil, nil })
	checkBoth(t, false, "empty lists", func(c *api.Command) { c.Reads, c.Writes = []api.Read{}, []api.Write{} })
	checkBoth(t, false, "empty lists", func(c *api.Command) { c.Reads, c.Writes = c.Reads[:0], c.Writes[:0] })
	checkBoth(t, true, "empty reads", func(c *api.Command) { c.Reads = c.Reads[:0] })
	checkBoth(t, true, "empty writes", func(c *api.Command) { c.Writes = c.Writes[:0] })
}

func TestP5_1RightKeys(t *testing.T) {
	for _, l := range notLists() {
		checkBoth(t, false, "reads", func(c *api.Command) { c.Reads = reads(l...) })
		checkBoth(t, false, "reads alone", func(c *api.Command) { c.Reads, c.Writes = reads(l...), nil })
		checkBoth(t, false, "writes", func(c *api.Command) { c.Writes = writes(l...) })
		checkBoth(t, false, "writes alone", func(c *api.Command) { c.Reads, c.Writes = nil, writes(l...) })
	}
	for _, l := range [][]string{{"a"}, {"\x00"}, {"abcdefgh"}, {"a", "ab", "b"}, {"\x80", "é"}, {"世", "\xff"}, letters(8)} {
		checkBoth(t, true, "reads", func(c *api.Command) { c.Reads = reads(l...) })
		checkBoth(t, true, "writes", func(c *api.Command) { c.Writes = writes(l...) })
		checkBoth(t, true, "both", func(c *api.Command) { c.Reads, c.Writes = reads(l...), writes(l...) })
	}
	// Together they do not increase, and need not.
	checkBoth(t, true, "both", func(c *api.Command) { c.Reads, c.Writes = reads("x", "y"), writes("a", "b") })
}

func TestP5_1RightVersion(t *testing.T) {
	at := api.Stamp{Time: 5, Client: 1}
	for _, v := range []struct {
		version api.Stamp
		want    bool
	}{
		{api.Stamp{}, true},
		{api.Stamp{Time: 0, Client: 3}, true},
		{api.Stamp{Time: 1, Client: 0}, true},
		{api.Stamp{Time: 4, Client: 3}, true},
		{api.Stamp{Time: 5, Client: 0}, true},
		{at, false},
		{api.Stamp{Time: 5, Client: 2}, false},
		{api.Stamp{Time: 5, Client: 3}, false},
		{api.Stamp{Time: 6, Client: 0}, false},
		{api.Stamp{Time: top, Client: 0}, false},
		// Before At, but no times.
		{api.Stamp{Time: -1, Client: 0}, false},
		{api.Stamp{Time: math.MinInt, Client: 0}, false},
		{api.Stamp{Time: 4, Client: -1}, false},
		{api.Stamp{Time: 4, Client: 4}, false},
		{api.Stamp{Time: 5, Client: -1}, false},
		{api.Stamp{Time: 0, Client: math.MaxInt}, false},
		{api.Stamp{Time: math.MaxInt, Client: 0}, false},
	} {
		for place := range 8 {
			checkBoth(t, v.want, "version", func(c *api.Command) {
				c.Reads = reads(letters(8)...)
				c.Reads[place].Version = v.version
			})
		}
	}
	checkBoth(t, true, "the last version", func(c *api.Command) {
		c.At.Time, c.Reads[0].Version = top, api.Stamp{Time: top, Client: 0}
	})
	checkBoth(t, false, "a version behind the last time", func(c *api.Command) {
		c.At.Time, c.Reads[0].Version = top, api.Stamp{Time: top, Client: 1}
	})
}

func TestP5_1RightValue(t *testing.T) {
	for n := range 30 {
		for _, part := range []string{"a", "\x00", "\xff"} {
			for place := range 8 {
				checkBoth(t, n <= 8, "value", func(c *api.Command) {
					c.Writes = writes(letters(8)...)
					c.Writes[place].Value = strings.Repeat(part, n)
				})
			}
		}
	}
	// Bytes are counted, not runes.
	checkBoth(t, true, "value", func(c *api.Command) { c.Writes[1].Value = "ab世界" })
	checkBoth(t, false, "value", func(c *api.Command) { c.Writes[1].Value = "世界世" })
	checkBoth(t, false, "value", func(c *api.Command) { c.Writes[1].Value = strings.Repeat("a", 1<<16) })
}

func TestP5_1RightOfLongLists(t *testing.T) {
	var l []string
	for n := range 5000 {
		l = append(l, strconv.Itoa(10000+n))
	}
	checkBoth(t, false, "many reads", func(c *api.Command) { c.Reads = reads(l...) })
	checkBoth(t, false, "many writes", func(c *api.Command) { c.Writes = writes(l...) })
}

func TestP5_1Keys(t *testing.T) {
	for _, c := range []struct {
		r, w []string
		want []string
	}{
		{nil, nil, nil},
		{[]string{}, []string{}, nil},
		{[]string{"a"}, nil, []string{"a"}},
		{nil, []string{"a"}, []string{"a"}},
		{[]string{"a"}, []string{"a"}, []string{"a"}},
		{[]string{"a", "c"}, []string{"b", "c"}, []string{"a", "b", "c"}},
		{[]string{"x", "y"}, []string{"a", "b"}, []string{"a", "b", "x", "y"}},
		{[]string{"\xff"}, []string{"世", "a"}, []string{"a", "世", "\xff"}},
		{letters(8), letters(8), letters(8)},
		{[]string{"a", "b", "c", "d", "e", "f", "g", "h"}, []string{"i", "j", "k", "l", "m", "n", "o", "p"}, letters(16)},
		// Lists that no valid command has.
		{[]string{"c", "a", "c"}, []string{"b", "", "b"}, []string{"", "a", "b", "c"}},
		{[]string{"abcdefghi"}, nil, []string{"abcdefghi"}},
		{letters(20), nil, letters(20)},
	} {
		for _, kind := range append(notKinds(), api.Noop, api.Validate, api.Decide) {
			d := api.Command{Kind: kind, Reads: reads(c.r...), Writes: writes(c.w...)}
			if got := command.Keys(d); !slices.Equal(got, c.want) {
				t.Errorf("Keys of %q, %q, kind %d = %q", c.r, c.w, kind, got)
			}
		}
	}
}

func TestP5_1KeysOfManyReads(t *testing.T) {
	var l []string
	for n := range 5000 {
		l = append(l, strconv.Itoa(10000+n))
	}
	c := api.Command{Reads: reads(l...), Writes: writes(l...)}
	slices.Reverse(c.Reads)
	if got := command.Keys(c); !slices.Equal(got, l) {
		t.Errorf("Keys of many: %d keys", len(got))
	}
}

// other is a command of another name without a key of some.
func other() api.Command {
	return api.Command{Kind: api.Validate, Txn: api.Txn{Client: 2, Number: 2}, At: api.Stamp{Time: 5, Client: 2}, Shards: 1, Reads: reads("x"), Writes: writes("y")}
}

func TestP5_1Interfere(t *testing.T) {
	type change = func(c *api.Command)
	for i, c := range []struct {
		change change
		want   bool
	}{
		{func(c *api.Command) {}, false},
		{func(c *api.Command) { c.At = some().At; c.Shards = some().Shards }, false},
		{func(c *api.Command) { c.Txn.Client = 1 }, true},
		{func(c *api.Command) { c.Txn.Number = 3; c.Txn.Client = 1 }, false},
		{func(c *api.Command) { c.Txn.Client = 1; c.Kind = api.Decide }, true},
		{func(c *api.Command) { c.Txn.Client = 1; c.Reads, c.Writes = nil, nil }, true},
		{func(c *api.Command) { c.Txn.Client = 1; c.Kind = 77 }, true},
		{func(c *api.Command) { c.Txn.Client = 1; c.Kind = -1 }, true},
		{func(c *api.Command) { c.Txn.Client = 1; c.Kind = api.Noop }, false},
		{func(c *api.Command) { c.Reads[0].Key = "a" }, true},  // read by both
		{func(c *api.Command) { c.Reads[0].Key = "b" }, true},  // read and written
		{func(c *api.Command) { c.Writes[0].Key = "a" }, true}, // written and read
		{func(c *api.Command) { c.Writes[0].Key = "b" }, true}, // written by both
		{func(c *api.Command) { c.Writes[0].Key = "c" }, true},
		{func(c *api.Command) { c.Reads = reads("w", "x", "a") }, true},
		{func(c *api.Command) { c.Writes = writes("w", "x", "b") }, true},
		{func(c *api.Command) { c.Reads[0].Key = "a"; c.Kind = api.Decide }, true},
		{func(c *api.Command) { c.Reads[0].Key = "a"; c.Kind = 77 }, true},
		{func(c *api.Command) { c.Reads[0].Key = "a"; c.Kind = api.Noop }, false},
		{func(c *api.Command) { c.Writes[0].Value = "1" }, false}, // a value is no key
		{func(c *api.Command) { c.Reads[0].Version = api.Stamp{Time: 4, Client: 2} }, false},
		{func(c *api.Command) { c.Reads = nil }, false},
		{func(c *api.Command) { c.Writes = nil }, false},
		{func(c *api.Command) { c.Reads, c.Writes = nil, nil }, false},
		{func(c *api.Command) { c.Reads[0].Key = "a\x00" }, false},
		{func(c *api.Command) { *c = api.Command{} }, false},
		{func(c *api.Command) { *c = some() }, true},
		{func(c *api.Command) { *c = asDecide(some(), true) }, true},
	} {
		d := other()
		c.change(&d)
		if got := command.Interfere(some(), d); got != c.want {
			t.Errorf("%d: Interfere(%v, %v) = %v", i, some(), d, got)
		}
		if got := command.Interfere(d, some()); got != c.want {
			t.Errorf("%d: Interfere(%v, %v) = %v", i, d, some(), got)
		}
	}
}

func TestP5_1InterfereOfNoops(t *testing.T) {
	for _, noop := range []api.Command{{}, {Reads: reads("a")}, changed(func(c *api.Command) { c.Kind = api.Noop })} {
		if command.Interfere(noop, noop) {
			t.Errorf("a Noop interferes with itself: %v", noop)
		}
		for _, c := range slices.Concat(validOnes(), invalidOnes()) {
			if command.Interfere(noop, c) || command.Interfere(c, noop) {
				t.Errorf("a Noop %v interferes with %v", noop, c)
			}
		}
	}
}

// The chapter's example: two that read a and write b, and each with itself.
func TestP5_1InterfereExample(t *testing.T) {
	a := api.Command{Kind: api.Validate, Txn: api.Txn{Client: 0, Number: 1}, At: api.Stamp{Time: 1}, Shards: 3, Reads: reads("a"), Writes: writes("b")}
	b := api.Command{Kind: api.Validate, Txn: api.Txn{Client: 1, Number: 1}, At: api.Stamp{Time: 1, Client: 1}, Shards: 3, Reads: reads("a"), Writes: writes("b")}
	if !command.Interfere(a, b) || !command.Interfere(b, a) {
		t.Error("two that read a and write b do not interfere")
	}
	for _, c := range slices.Concat(validOnes(), invalidOnes()) {
		if got := command.Interfere(c, c); got != (c.Kind != api.Noop) {
			t.Errorf("Interfere of %v with itself = %v", c, got)
		}
	}
}

func TestP5_1Same(t *testing.T) {
	all := slices.Concat(validOnes(), invalidOnes())
	for i, a := range all {
		for k, b := range all {
			if got := command.Same(a, deep(b)); got != (i == k) {
				t.Errorf("Same(%v, %v) = %v", a, b, got)
			}
		}
	}
}

// changes are such that each touches one field.
func changes() []func(c *api.Command) {
	return []func(c *api.Command){
		func(c *api.Command) { c.Kind = api.Decide },
		func(c *api.Command) { c.Kind = api.Noop },
		func(c *api.Command) { c.Kind += 1 << 32 },
		func(c *api.Command) { c.Txn.Client++ },
		func(c *api.Command) { c.Txn.Number++ },
		func(c *api.Command) { c.At.Time++ },
		func(c *api.Command) { c.At.Client++ },
		func(c *api.Command) { c.Shards++ },
		func(c *api.Command) { c.Commit = true },
		func(c *api.Command) { c.Reads[0].Key = "b" },
		func(c *api.Command) { c.Reads[0].Version.Time++ },
		func(c *api.Command) { c.Reads[0].Version.Client++ },
		func(c *api.Command) { c.Reads[1].Key = "d" },
		func(c *api.Command) { c.Reads[1].Version.Client++ },
		func(c *api.Command) { c.Writes[0].Key = "a" },
		func(c *api.Command) { c.Writes[0].Value = "" },
		func(c *api.Command) { c.Writes[1].Key = "d" },
		func(c *api.Command) { c.Writes[1].Value = "2" },
		func(c *api.Command) { c.Reads = c.Reads[:1] },
		func(c *api.Command) { c.Reads = c.Reads[1:] },
		func(c *api.Command) { c.Reads = nil },
		func(c *api.Command) { c.Reads = append(c.Reads, api.Read{}) },
		func(c *api.Command) { slices.Reverse(c.Reads) },
		func(c *api.Command) { c.Writes = c.Writes[:1] },
		func(c *api.Command) { c.Writes = c.Writes[1:] },
		func(c *api.Command) { c.Writes = nil },
		func(c *api.Command) { c.Writes = append(c.Writes, api.Write{}) },
		func(c *api.Command) { slices.Reverse(c.Writes) },
	}
}

func TestP5_1SameFieldByField(t *testing.T) {
	if !command.Same(some(), some()) {
		t.Error("Same of two that are equal = false")
	}
	for i, change := range changes() {
		if c := changed(change); command.Same(some(), c) || command.Same(c, some()) {
			t.Errorf("%d: Same(%v, %v) = true", i, some(), c)
		}
	}
}

func TestP5_1SameOfNilAndEmpty(t *testing.T) {
	l := []api.Command{{}, {Reads: []api.Read{}}, {Writes: []api.Write{}}, {Reads: reads("a")[:0], Writes: writes("a")[:0]}}
	for _, a := range l {
		for _, b := range l {
			if !command.Same(a, b) {
				t.Errorf("Same(%#v, %#v) = false", a, b)
			}
		}
	}
	a := changed(func(c *api.Command) { c.Reads = nil })
	b := changed(func(c *api.Command) { c.Reads = []api.Read{} })
	if !command.Same(a, b) || !command.Same(b, a) {
		t.Error("nil and empty reads are not the same")
	}
	a = changed(func(c *api.Command) { c.Writes = nil })
	b = changed(func(c *api.Command) { c.Writes = []api.Write{} })
	if !command.Same(a, b) || !command.Same(b, a) {
		t.Error("nil and empty writes are not the same")
	}
}

func TestP5_1Clone(t *testing.T) {
	for _, c := range slices.Concat(validOnes(), invalidOnes()) {
		if got := command.Clone(c); !equal(got, c) || !command.Same(got, c) {
			t.Errorf("Clone(%v) = %v", c, got)
		}
	}
}

func TestP5_1CloneIsNewMemory(t *testing.T) {
	for _, c := range slices.Concat(validOnes(), invalidOnes()) {
		want := deep(c)
		arg, untouched := withSpare(c)
		first, second := command.Clone(arg), command.Clone(arg)
		spoil(first, "other")
		if !untouched() || !equal(second, want) {
			t.Errorf("a Clone of %v shares memory", want)
		}
		spoil(arg, "third")
		if !equal(second, want) {
			t.Errorf("a Clone of %v follows its argument: %v", want, second)
		}
	}
}

func TestP5_1KeysAreNewMemory(t *testing.T) {
	want := []string{"a", "b", "c"}
	first, second := command.Keys(some()), command.Keys(some())
	for i := range first[:cap(first)] {
		first[:cap(first)][i] = "other"
	}
	if !slices.Equal(second, want) || !slices.Equal(command.Keys(some()), want) {
		t.Errorf("Keys changed with another result: %q", second)
	}
}

func TestP5_1And2ArgumentsStayAsTheyAre(t *testing.T) {
	a, untouchedA := withSpare(some())
	b, untouchedB := withSpare(changed(func(c *api.Command) { c.Reads, c.Writes = reads("z", "b", ""), writes("b", "a", "abcdefghi") }))
	command.Right(a)
	command.Right(b)
	command.Keys(a)
	command.Keys(b)
	command.Interfere(a, b)
	command.Same(a, b)
	command.Compare(a, b)
	for shard := range 2 {
		part, _ := command.Part(a, shard, 2)
		spoil(part, "other")
		part, _ = command.Part(b, shard, 2)
		spoil(part, "other")
	}
	decide, _ := command.Decided(a, true)
	spoil(decide, "other")
	decide, _ = command.Decided(b, true)
	spoil(decide, "other")
	if !untouchedA() || !untouchedB() {
		t.Errorf("the arguments are now %v and %v", a, b)
	}
}

func TestP5_2Part(t *testing.T) {
	// With 2 shards a and c are of shard 1, b of shard 0; with 4, a is of 1, b of 2, c of 3.
	version := api.Stamp{Time: 4, Client: 2}
	for _, c := range []struct {
		shard, shards int
		reads         []api.Read
		writes        []api.Write
	}{
		{0, 1, some().Reads, some().Writes},
		{0, 2, nil, []api.Write{{Key: "b", Value: "1"}}},
		{1, 2, []api.Read{{Key: "a", Version: version}, {Key: "c"}}, []api.Write{{Key: "c"}}},
		{0, 3, []api.Read{{Key: "c"}}, []api.Write{{Key: "c"}}},
		{1, 3, []api.Read{{Key: "a", Version: version}}, nil},
		{2, 3, nil, []api.Write{{Key: "b", Value: "1"}}},
		{1, 4, []api.Read{{Key: "a", Version: version}}, nil},
		{2, 4, nil, []api.Write{{Key: "b", Value: "1"}}},
		{3, 4, []api.Read{{Key: "c"}}, []api.Write{{Key: "c"}}},
	} {
		for _, d := range []api.Command{some(), asDecide(some(), false), asDecide(some(), true)} {
			want := d
			want.Reads, want.Writes = c.reads, c.writes
			if got, err := command.Part(d, c.shard, c.shards); !equal(got, want) || err != api.OK {
				t.Errorf("Part(%v, %d, %d) = %v, %d, want %v", d, c.shard, c.shards, got, err, want)
			}
		}
	}
	if got, err := command.Part(some(), 0, 4); !equal(got, api.Command{}) || err != api.ErrNone {
		t.Errorf("Part(.., 0, 4) = %v, %d", got, err)
	}
}

// Each part is worked out again by the shards of the keys, one by one.
func TestP5_2PartOfEach(t *testing.T) {
	for _, c := range validOnes() {
		if c.Kind == api.Noop {
			continue
		}
		for shards := 1; shards <= 4; shards++ {
			for shard := -1; shard <= shards; shard++ {
				checkPart(t, c, shard, shards)
			}
		}
	}
}

func checkPart(t *testing.T, c api.Command, shard, shards int) {
	t.Helper()
	want, wantErr := c, api.OK
	want.Reads, want.Writes = nil, nil
	for _, r := range c.Reads {
		if own, _ := keys.Shard(r.Key, shards); own == shard {
			want.Reads = append(want.Reads, r)
		}
	}
	for _, w := range c.Writes {
		if own, _ := keys.Shard(w.Key, shards); own == shard {
			want.Writes = append(want.Writes, w)
		}
	}
	if len(want.Reads)+len(want.Writes) == 0 {
		want, wantErr = api.Command{}, api.ErrNone
	}
	if got, err := command.Part(c, shard, shards); !equal(got, want) || err != wantErr {
		t.Errorf("Part(%v, %d, %d) = %v, %d, want %v, %d", c, shard, shards, got, err, want, wantErr)
	}
}

// A part has what belongs to the shard, whether Shards names it or not.
func TestP5_2PartIgnoresShards(t *testing.T) {
	for mask := 1; mask <= 15; mask++ {
		c := changed(func(c *api.Command) { c.Shards = mask })
		want := c
		want.Reads, want.Writes = nil, c.Writes[:1]
		if got, err := command.Part(c, 0, 2); !equal(got, want) || err != api.OK {
			t.Errorf("Part of Shards %d = %v, %d", mask, got, err)
		}
	}
}

func TestP5_2PartOfNothing(t *testing.T) {
	for _, shard := range []int{math.MinInt, -1 << 32, -4, -1, 4, 5, 1 << 32, 1<<32 + 1, math.MaxInt} {
		for shards := 1; shards <= 4; shards++ {
			for _, c := range []api.Command{some(), asDecide(some(), true)} {
				if got, err := command.Part(c, shard, shards); !equal(got, api.Command{}) || err != api.ErrNone {
					t.Errorf("Part(.., %d, %d) = %v, %d", shard, shards, got, err)
				}
			}
		}
	}
}

func TestP5_2PartOfInvalid(t *testing.T) {
	everyShards := append(notShards(), 1, 2, 3, 4)
	for _, c := range append(invalidOnes(), api.Command{}, api.Command{Reads: []api.Read{}}) {
		for _, shard := range []int{-1, 0, 1, 2, 3, 4} {
			for _, shards := range everyShards {
				if got, err := command.Part(c, shard, shards); !equal(got, api.Command{}) || err != api.ErrArg {
					t.Errorf("Part(%v, %d, %d) = %v, %d", c, shard, shards, got, err)
				}
			}
		}
	}
	for _, shards := range notShards() {
		for _, shard := range []int{math.MinInt, -1, 0, 1, 2, 3, 4, math.MaxInt} {
			for _, c := range validOnes() {
				if got, err := command.Part(c, shard, shards); !equal(got, api.Command{}) || err != api.ErrArg {
					t.Errorf("Part(%v, %d, %d) = %v, %d", c, shard, shards, got, err)
				}
			}
		}
	}
}

func TestP5_2Decided(t *testing.T) {
	for _, c := range validOnes() {
		for _, commit := range []bool{false, true} {
			want, wantErr := asDecide(c, commit), api.OK
			if c.Kind != api.Validate {
				want, wantErr = api.Command{}, api.ErrArg
			}
			if got, err := command.Decided(c, commit); !equal(got, want) || err != wantErr {
				t.Errorf("Decided(%v, %v) = %v, %d", c, commit, got, err)
			}
		}
	}
}

func TestP5_2DecidedOfInvalid(t *testing.T) {
	for _, c := range invalidOnes() {
		for _, commit := range []bool{false, true} {
			if got, err := command.Decided(c, commit); !equal(got, api.Command{}) || err != api.ErrArg {
				t.Errorf("Decided(%v, %v) = %v, %d", c, commit, got, err)
			}
		}
	}
}

// Of one shard the part equals the command, whose lists must not be handed back themselves.
func TestP5_2ResultsAreNewMemory(t *testing.T) {
	part := func(c api.Command) api.Command { p, _ := command.Part(c, 0, 1); return p }
	decided := func(c api.Command) api.Command { d, _ := command.Decided(c, true); return d }
	for _, built := range []func(c api.Command) api.Command{part, decided} {
		arg, untouched := withSpare(some())
		first, second := built(arg), built(arg)
		want := deep(second)
		spoil(first, "other")
		if !untouched() || !equal(second, want) {
			t.Errorf("%v shares memory", want)
		}
		spoil(arg, "third")
		if !equal(second, want) {
			t.Errorf("%v follows its argument: %v", want, second)
		}
	}
}

func TestP5_2Compare(t *testing.T) {
	numbers := []int{math.MinInt, -1, 0, 1, 2, 1 << 32, top, top + 1, math.MaxInt}
	var l []api.Command // in increasing order
	for _, time := range numbers {
		for _, client := range []int{math.MinInt, 0, 1, math.MaxInt} {
			for _, name := range []int{math.MinInt, 0, 3, math.MaxInt} {
				for _, number := range []int{math.MinInt, 0, 1, math.MaxInt} {
					l = append(l, api.Command{At: api.Stamp{Time: time, Client: client}, Txn: api.Txn{Client: name, Number: number}})
				}
			}
		}
	}
	for i, a := range l {
		for k, b := range l {
			want := 0
			if i < k {
				want = -1
			} else if i > k {
				want = 1
			}
			if got := command.Compare(a, b); got != want {
				t.Fatalf("Compare(%v, %v) = %d, want %d", a, b, got, want)
			}
		}
	}
}

// What is neither the time nor the name does not count, and the kind does not either.
func TestP5_2CompareOnlyTimesAndNames(t *testing.T) {
	for _, a := range slices.Concat(validOnes(), invalidOnes()) {
		if command.Compare(a, deep(a)) != 0 {
			t.Errorf("Compare of %v with itself is not 0", a)
		}
		for _, kind := range append(notKinds(), api.Noop, api.Validate, api.Decide) {
			b := api.Command{Kind: kind, Txn: a.Txn, At: a.At, Shards: -7, Reads: reads("q"), Commit: !a.Commit}
			if command.Compare(a, b) != 0 || command.Compare(b, a) != 0 {
				t.Errorf("Compare(%v, %v) is not 0", a, b)
			}
			b.Txn.Number++
			if command.Compare(a, b) != -1 || command.Compare(b, a) != 1 {
				t.Errorf("Compare(%v, %v) is not -1", a, b)
			}
			b.At.Client--
			if command.Compare(a, b) != 1 || command.Compare(b, a) != -1 {
				t.Errorf("Compare(%v, %v) is not 1", a, b)
			}
		}
	}
}

func TestP5_3PartsAreValid(t *testing.T) {
	for _, c := range validOnes() {
		for shards := 1; shards <= 4; shards++ {
			for shard := range shards {
				part, err := command.Part(c, shard, shards)
				if err == api.OK && !command.Right(part) {
					t.Errorf("Part(%v, %d, %d) = %v, which is not valid", c, shard, shards, part)
				}
				if err == api.OK && !command.Interfere(c, part) {
					t.Errorf("%v does not interfere with its part %v", c, part)
				}
			}
		}
	}
}

func TestP5_3AllPartsTogether(t *testing.T) {
	for _, c := range validOnes() {
		if c.Kind == api.Noop {
			continue
		}
		for shards := 1; shards <= 4; shards++ {
			together := deep(c)
			together.Reads, together.Writes = nil, nil
			mask := 0
			for shard := range shards {
				part, err := command.Part(c, shard, shards)
				if err == api.OK {
					mask |= 1 << shard
				}
				together.Reads = append(together.Reads, part.Reads...)
				together.Writes = append(together.Writes, part.Writes...)
			}
			slices.SortFunc(together.Reads, func(a, b api.Read) int { return strings.Compare(a.Key, b.Key) })
			slices.SortFunc(together.Writes, func(a, b api.Write) int { return strings.Compare(a.Key, b.Key) })
			if !equal(together, c) {
				t.Errorf("the parts of %v, %d shards, are %v", c, shards, together)
			}
			if want, err := keys.Mask(command.Keys(c), shards); mask != want || err != api.OK {
				t.Errorf("%v has parts %d of %d shards, want %d", c, mask, shards, want)
			}
		}
	}
}

func TestP5_3InterferesWithItsDecide(t *testing.T) {
	for _, c := range validOnes() {
		for _, commit := range []bool{false, true} {
			decide, err := command.Decided(c, commit)
			if err != api.OK {
				continue
			}
			if !command.Right(decide) || !command.Interfere(c, decide) || !command.Interfere(decide, c) || command.Compare(c, decide) != 0 {
				t.Errorf("%v and its Decide %v", c, decide)
			}
		}
	}
}

// Parts of two shards have no key in common, but one name.
func TestP5_3PartsOfOneNameInterfere(t *testing.T) {
	zero, _ := command.Part(some(), 0, 2)
	one, _ := command.Part(some(), 1, 2)
	decide, _ := command.Decided(one, true)
	if keys.Meet(command.Keys(zero), command.Keys(one)) || !command.Interfere(zero, one) || !command.Interfere(zero, decide) {
		t.Errorf("the parts %v and %v", zero, one)
	}
}

func TestP5_3InterferenceIsSymmetric(t *testing.T) {
	all := slices.Concat(validOnes(), invalidOnes())
	for _, a := range all {
		for _, b := range all {
			meet := false
			for _, key := range command.Keys(a) {
				meet = meet || slices.Contains(command.Keys(b), key)
			}
			want := a.Kind != api.Noop && b.Kind != api.Noop && (a.Txn == b.Txn || meet)
			if command.Interfere(a, b) != want || command.Interfere(b, a) != want {
				t.Errorf("Interfere(%v, %v) = %v, the other way %v, want %v", a, b, command.Interfere(a, b), command.Interfere(b, a), want)
			}
		}
	}
}
