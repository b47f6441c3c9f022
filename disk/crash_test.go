package disk_test

import (
	"bytes"
	"math"
	"strconv"
	"testing"

	"althing/disk"
)

func crashName(keep, at int, by byte) string {
	return "Crash(" + strconv.Itoa(keep) + ", " + strconv.Itoa(at) + ", " + strconv.Itoa(int(by)) + ")"
}

func TestP8_2CrashKeeps(t *testing.T) {
	all := []byte{1, 2, 3, 4, 5}
	for keep, want := range map[int]int{
		math.MinInt: 2, math.MinInt + 1: 2, -3: 2, -2: 2, -1: 2, 0: 2,
		1: 3, 2: 4, 3: 5,
		4: 5, 5: 5, 6: 5, 7: 5, 1 << 31: 5, 1 << 32: 5, math.MaxInt - 2: 5, math.MaxInt - 1: 5, math.MaxInt: 5,
	} {
		for _, at := range []int{-1, 3, 5, math.MinInt, math.MaxInt} {
			d := disk6()
			d.Crash(keep, at, 255)
			check(t, crashName(keep, at, 255), d, all[:want], want, 6-want)
		}
		d := disk6()
		d.Crash(keep, 0, 0)
		check(t, crashName(keep, 0, 0), d, all[:want], want, 6-want)
	}
}

func TestP8_2CrashTurns(t *testing.T) {
	for _, c := range []struct {
		keep, at int
		by       byte
		want     []byte
	}{
		{3, 0, 8, []byte{1, 2, 11, 4, 5}},
		{3, 1, 8, []byte{1, 2, 3, 12, 5}},
		{3, 2, 8, []byte{1, 2, 3, 4, 13}}, // the last one that is left
		{3, 3, 8, []byte{1, 2, 3, 4, 5}},
		{3, 4, 8, []byte{1, 2, 3, 4, 5}},
		{3, -1, 8, []byte{1, 2, 3, 4, 5}}, // a safe one would stand there
		{3, -2, 8, []byte{1, 2, 3, 4, 5}},
		{3, -3, 8, []byte{1, 2, 3, 4, 5}},
		{9, 2, 8, []byte{1, 2, 3, 4, 13}},
		{9, 3, 8, []byte{1, 2, 3, 4, 5}},
		{math.MaxInt, 2, 255, []byte{1, 2, 3, 4, 250}},
		{2, 0, 8, []byte{1, 2, 11, 4}},
		{2, 1, 8, []byte{1, 2, 3, 12}},
		{2, 2, 8, []byte{1, 2, 3, 4}}, // it was there, but is not left
		{1, 0, 8, []byte{1, 2, 11}},
		{1, 1, 8, []byte{1, 2, 3}},
		{0, 0, 8, []byte{1, 2}},
		{0, 1, 8, []byte{1, 2}},
		{-1, 0, 8, []byte{1, 2}},
		{-1, -1, 8, []byte{1, 2}},
		{-2, -2, 8, []byte{1, 2}},
		{3, math.MinInt, 8, []byte{1, 2, 3, 4, 5}},
		{3, math.MaxInt, 8, []byte{1, 2, 3, 4, 5}},
		{3, math.MaxInt - 1, 8, []byte{1, 2, 3, 4, 5}},
		{3, 1 << 32, 8, []byte{1, 2, 3, 4, 5}},
		{3, 1, 0, []byte{1, 2, 3, 4, 5}},
		{3, 1, 255, []byte{1, 2, 3, 251, 5}},
		{3, 1, 4, []byte{1, 2, 3, 0, 5}},
		{3, 1, 5, []byte{1, 2, 3, 1, 5}},
	} {
		d := disk6()
		d.Crash(c.keep, c.at, c.by)
		check(t, crashName(c.keep, c.at, c.by), d, c.want, len(c.want), 6-len(c.want))
	}
}

// Where nothing is safe, the index counts from the first byte of all.
func TestP8_2CrashWhereNothingIsSafe(t *testing.T) {
	for _, c := range []struct {
		keep, at int
		want     []byte
	}{{3, 0, []byte{0, 2, 3}}, {3, 2, []byte{1, 2, 2}}, {3, 3, []byte{1, 2, 3}}, {1, 0, []byte{0}}, {1, 1, []byte{1}}, {0, 0, nil}, {-1, 0, nil}, {9, 1, []byte{1, 3, 3}}} {
		d := made(4, nil, []byte{1, 2, 3})
		d.Crash(c.keep, c.at, 1)
		check(t, crashName(c.keep, c.at, 1), d, c.want, len(c.want), 4-len(c.want))
	}
}

func TestP8_2CrashWhereAllIsSafe(t *testing.T) {
	for _, size := range []int{0, 3, 4} {
		content := filled(min(size, 3), 0)
		for _, keep := range []int{math.MinInt, -1, 0, 1, 3, math.MaxInt} {
			for _, at := range []int{math.MinInt, -3, -1, 0, 1, 2, 3, math.MaxInt} {
				d := made(size, content, nil)
				d.Crash(keep, at, 255)
				check(t, crashName(keep, at, 255), d, content, len(content), size-len(content))
			}
		}
	}
}

func TestP8_2CrashTwice(t *testing.T) {
	d := disk6()
	d.Crash(2, 0, 8)
	d.Crash(0, 0, 8)
	check(t, "a second crash", d, []byte{1, 2, 11, 4}, 4, 2)
	d.Append([]byte{6, 7})
	d.Crash(1, 0, 1)
	check(t, "a third crash", d, []byte{1, 2, 11, 4, 7}, 5, 1)
}

// A crash of the greatest disk turns the byte that it names, at each edge.
func TestP8_2CrashOfTheGreatestDisk(t *testing.T) {
	whole := filled(most, 0)
	for _, safe := range []int{0, 1, most / 2, most - 1, most} {
		for _, at := range []int{0, 1, (most - safe) / 2, most - safe - 1, most - safe} {
			d := made(most, whole[:safe], whole[safe:])
			d.Crash(most, at, 128)
			want := bytes.Clone(whole)
			if at >= 0 && at < most-safe {
				want[safe+at] ^= 128
			}
			check(t, crashName(most, at, 128), d, want, most, 0)
		}
	}
}

func TestP8_2SafeBehindEachCall(t *testing.T) {
	for _, c := range []struct {
		call call
		want int
	}{
		{callAppend("1", []byte{6}), 2},
		{callAppend("none", nil), 2},
		{callAppend("too many", []byte{6, 7}), 2},
		{callSync(), 5},
		{callCut("0", 0), 0},
		{callCut("1", 1), 1},
		{callCut("2", 2), 2},
		{callCut("3", 3), 2},
		{callCut("5", 5), 2},
		{callCut("-1", -1), 2},
		{callCut("6", 6), 2},
		{callReplace("none", nil), 0},
		{callReplace("1", []byte{9}), 1},
		{callReplace("4", []byte{9, 8, 7, 6}), 4},
		{callReplace("too many", make([]byte, 7)), 2},
		{callCrash("-1", -1, 0, 1), 2},
		{callCrash("0", 0, 0, 1), 2},
		{callCrash("1", 1, 0, 1), 3},
		{callCrash("3", 3, 0, 1), 5},
		{callCrash("9", 9, 0, 1), 5},
	} {
		d := disk6()
		c.call.do(d)
		if got := d.Safe(); got != c.want {
			t.Errorf("behind %s, %d are safe, want %d", c.call.name, got, c.want)
		}
	}
}

// Of each disk that can be with few bytes, each crash that can be told from others.
func TestP8_3EachCrash(t *testing.T) {
	for size := range 7 {
		for count := range size + 1 {
			for safe := range count + 1 {
				for keep := -2; keep <= count+2; keep++ {
					for at := -count - 2; at <= count+2; at++ {
						crashOnce(t, size, count, safe, keep, at)
					}
				}
			}
		}
	}
}

func crashOnce(t *testing.T, size, count, safe, keep, at int) {
	t.Helper()
	all := filled(count, size)
	d := made(size, all[:safe], all[safe:])
	d.Crash(keep, at, 255)
	got := d.Bytes()
	if len(got) > count || !bytes.HasPrefix(got, all[:safe]) {
		t.Errorf("%s of %x, %d safe: %x", crashName(keep, at, 255), all, safe, got)
	}
	m := model{size, all, safe}
	m.crash(keep, at, 255)
	check(t, crashName(keep, at, 255), d, m.content, m.safe, size-len(m.content))
}

// However bytes became safe, no crash changes them, nor those behind a call that was refused.
func TestP8_3WhateverMadeThemSafe(t *testing.T) {
	for _, c := range []struct {
		name string
		make func() *disk.Disk
		want []byte
	}{
		{"Sync", func() *disk.Disk { return made(6, []byte{1, 2}, nil) }, []byte{1, 2}},
		{"Replace", func() *disk.Disk {
			d := disk6()
			d.Replace([]byte{9, 8})
			return d
		}, []byte{9, 8}},
		{"Crash", func() *disk.Disk {
			d := disk6()
			d.Crash(1, -1, 0)
			return d
		}, []byte{1, 2, 3}},
		{"Cut", func() *disk.Disk {
			d := disk6()
			d.Cut(1)
			return d
		}, []byte{1}},
		{"Cut behind them", func() *disk.Disk {
			d := disk6()
			d.Cut(2)
			return d
		}, []byte{1, 2}},
		{"Copy", func() *disk.Disk { return disk6().Copy() }, []byte{1, 2}},
		{"Append that is refused", func() *disk.Disk {
			d := disk6()
			d.Append(make([]byte, 2))
			return d
		}, []byte{1, 2}},
		{"Replace that is refused", func() *disk.Disk {
			d := disk6()
			d.Replace(make([]byte, 7))
			return d
		}, []byte{1, 2}},
	} {
		for keep := -1; keep < 5; keep++ {
			for at := -6; at < 6; at++ {
				d := c.make()
				d.Append([]byte{7})
				count := len(d.Bytes())
				d.Crash(keep, at, 255)
				if got := d.Bytes(); !bytes.HasPrefix(got, c.want) || len(got) > count {
					t.Errorf("%s behind %s: %v of %d, want %v first", crashName(keep, at, 255), c.name, got, count, c.want)
				}
			}
		}
	}
}

// What became safe by a crash is safe in the next one, and what was cut off, lost or replaced does not come back.
func TestP8_3NothingComesBack(t *testing.T) {
	d := disk6()
	d.Crash(1, -1, 0)
	d.Crash(9, -1, 0)
	check(t, "a crash behind a crash", d, []byte{1, 2, 3}, 3, 3)
	d.Append([]byte{6, 7})
	d.Cut(4)
	d.Crash(9, -1, 0)
	check(t, "a crash behind a cut", d, []byte{1, 2, 3, 6}, 4, 2)
	d.Replace([]byte{8})
	d.Crash(9, -1, 0)
	check(t, "a crash behind Replace", d, []byte{8}, 1, 5)
}

func someCalls() []call {
	return []call{
		callAppend("none", nil), callAppend("1", []byte{10}), callAppend("2", []byte{20, 21}), callAppend("5", []byte{50, 51, 52, 53, 54}),
		callSync(),
		callCut("-1", -1), callCut("0", 0), callCut("1", 1), callCut("3", 3),
		callReplace("none", nil), callReplace("2", []byte{60, 61}), callReplace("5", []byte{70, 71, 72, 73, 74}),
		callCrash("-1", -1, 0, 1), callCrash("1", 1, 0, 2), callCrash("2", 2, 1, 4), callCrash("9", 9, 0, 8), callCrash("9, not turned", 9, -1, 16),
	}
}

// Each row of four calls, on a disk where some do not fit, does what the document words.
func TestP8_1EachRowOfCalls(t *testing.T) {
	for _, size := range []int{0, 1, 4, 6} {
		eachRow(t, "", disk.New(size), model{size: size}, 4)
	}
}

func eachRow(t *testing.T, row string, d *disk.Disk, m model, depth int) {
	t.Helper()
	for _, c := range someCalls() {
		e, n, name := d.Copy(), m, row+c.name+", "
		if got, want := c.do(e), c.told(&n); got != want {
			t.Errorf("%s= %d, want %d", name, got, want)
		}
		if !bytes.Equal(e.Bytes(), n.content) || e.Safe() != n.safe || e.Room() != n.size-len(n.content) {
			t.Fatalf("%s: %v, %d safe, room for %d, want %v, %d", name, e.Bytes(), e.Safe(), e.Room(), n.content, n.safe)
		}
		if depth > 1 {
			eachRow(t, name, e, n, depth-1)
		}
	}
}

// A long row of calls on one disk, without copies in between.
func TestP8_1ALongRowOfCalls(t *testing.T) {
	calls := someCalls()
	for _, size := range []int{3, 7, 40} {
		d, m := disk.New(size), model{size: size}
		state := uint32(size)
		for k := range 20000 {
			state = state*1664525 + 1013904223
			c := calls[state>>16%uint32(len(calls))]
			if got, want := c.do(d), c.told(&m); got != want {
				t.Fatalf("call %d, %s = %d, want %d", k, c.name, got, want)
			}
			if !bytes.Equal(d.Bytes(), m.content) || d.Safe() != m.safe || d.Room() != m.size-len(m.content) {
				t.Fatalf("behind call %d, %s: %v, %d safe, want %v, %d", k, c.name, d.Bytes(), d.Safe(), m.content, m.safe)
			}
		}
	}
}
