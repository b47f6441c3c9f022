package disk_test

import (
	"bytes"
	"math"
	"strconv"
	"testing"

	"althing/api"
	"althing/disk"
)

func TestP8_1New(t *testing.T) {
	for _, size := range []int{0, 1, 2, 255, 256, 65536, most - 1, most} {
		d := disk.New(size)
		if d == nil {
			t.Fatalf("New(%d) = nil", size)
		}
		check(t, "New("+strconv.Itoa(size)+")", d, nil, 0, size)
	}
}

func TestP8_1NewOfNoSize(t *testing.T) {
	for _, size := range []int{-1, -2, -most, most + 1, most + 2, 2 * most, math.MinInt32, math.MaxInt32, 1 << 32, 1<<32 + 1, math.MinInt, math.MinInt + 1, math.MaxInt} {
		if d := disk.New(size); d != nil {
			t.Errorf("New(%d) is a disk with room for %d", size, d.Room())
		}
	}
}

func TestP8_1DisksAreApart(t *testing.T) {
	a, b := disk.New(4), disk.New(4)
	a.Append([]byte{1})
	b.Append([]byte{2, 3})
	a.Sync()
	check(t, "the first disk", a, []byte{1}, 1, 3)
	check(t, "the second disk", b, []byte{2, 3}, 0, 2)
}

func TestP8_1Append(t *testing.T) {
	d := disk.New(6)
	checkErr(t, "Append of 2", d.Append([]byte{1, 2}), api.OK)
	check(t, "Append of 2", d, []byte{1, 2}, 0, 4)
	checkErr(t, "Append of 1", d.Append([]byte{3}), api.OK)
	check(t, "Append of 1", d, []byte{1, 2, 3}, 0, 3)
	d.Sync()
	checkErr(t, "Append behind safe ones", d.Append([]byte{4, 5}), api.OK)
	check(t, "Append behind safe ones", d, []byte{1, 2, 3, 4, 5}, 3, 1)
}

func TestP8_1AppendOfWhatFitsJustSo(t *testing.T) {
	for _, size := range []int{0, 1, 2, 6, 300, 4096, most} {
		whole := filled(size, 0)
		for _, first := range []int{0, size / 2, max(size-1, 0), size} {
			d := disk.New(size)
			checkErr(t, "Append of the first bytes", d.Append(whole[:first]), api.OK)
			checkErr(t, "Append of just so", d.Append(whole[first:]), api.OK)
			check(t, "Append of just so", d, whole, 0, 0)
		}
	}
}

func TestP8_1AppendOfOneByteMore(t *testing.T) {
	for _, size := range []int{0, 1, 2, 6, 300, 4096, most} {
		for _, first := range []int{0, size / 2, size} {
			d := disk.New(size)
			d.Append(filled(first, 0))
			checkErr(t, "Append of one byte more", d.Append(filled(size-first+1, 1)), api.ErrFull)
			check(t, "Append of one byte more", d, filled(first, 0), 0, size-first)
		}
	}
}

func TestP8_1AppendThatIsRefused(t *testing.T) {
	for _, n := range []int{2, 3, 6, 7, 8, 4096, most, most + 1, 3 * most} {
		d := disk6()
		checkErr(t, "Append of "+strconv.Itoa(n), d.Append(filled(n, 1)), api.ErrFull)
		check(t, "Append of "+strconv.Itoa(n), d, []byte{1, 2, 3, 4, 5}, 2, 1)
		checkErr(t, "Append of what fits", d.Append([]byte{6}), api.OK)
		check(t, "Append of what fits", d, []byte{1, 2, 3, 4, 5, 6}, 2, 0)
	}
}

func TestP8_1AppendOfNone(t *testing.T) {
	for _, none := range [][]byte{nil, {}, filled(9, 1)[:0]} {
		for _, size := range []int{0, 5} {
			d := disk.New(size)
			checkErr(t, "Append of none", d.Append(none), api.OK)
			check(t, "Append of none", d, nil, 0, size)
		}
		for _, room := range []int{0, 1, 7} {
			d := made(5+room, []byte{1, 2}, []byte{3, 4, 5})
			checkErr(t, "Append of none", d.Append(none), api.OK)
			check(t, "Append of none", d, []byte{1, 2, 3, 4, 5}, 2, room)
			checkErr(t, "Append behind none", d.Append(filled(room, 1)), api.OK)
			check(t, "Append behind none", d, append([]byte{1, 2, 3, 4, 5}, filled(room, 1)...), 2, 0)
		}
	}
}

// A disk takes as many bytes one by one as at once, and takes them in a time that does not grow with what it has.
func TestP8_1AppendOneByOne(t *testing.T) {
	d := disk.New(most)
	whole := filled(most, 2)
	for k := range whole {
		if err := d.Append(whole[k : k+1]); err != api.OK {
			t.Fatalf("Append of byte %d = %d", k, err)
		}
	}
	check(t, "Append one by one", d, whole, 0, 0)
	checkErr(t, "Append of one more", d.Append([]byte{1}), api.ErrFull)
	check(t, "Append of one more", d, whole, 0, 0)
}

func TestP8_1Sync(t *testing.T) {
	d := disk6()
	d.Sync()
	check(t, "Sync", d, []byte{1, 2, 3, 4, 5}, 5, 1)
	d.Sync()
	check(t, "Sync twice", d, []byte{1, 2, 3, 4, 5}, 5, 1)
	d.Append([]byte{6})
	check(t, "Append behind Sync", d, []byte{1, 2, 3, 4, 5, 6}, 5, 0)
	d.Sync()
	check(t, "Sync of a full disk", d, []byte{1, 2, 3, 4, 5, 6}, 6, 0)
}

func TestP8_1SyncOfNoBytes(t *testing.T) {
	for _, size := range []int{0, 1, most} {
		d := disk.New(size)
		d.Sync()
		check(t, "Sync of no bytes", d, nil, 0, size)
		d.Sync()
		check(t, "Sync of no bytes, twice", d, nil, 0, size)
	}
}

func TestP8_1Cut(t *testing.T) {
	for safe := range 6 {
		for n := range 6 {
			all := []byte{1, 2, 3, 4, 5}
			d := made(6, all[:safe], all[safe:])
			checkErr(t, "Cut", d.Cut(n), api.OK)
			check(t, "Cut of "+strconv.Itoa(n)+" with "+strconv.Itoa(safe)+" safe", d, all[:n], min(safe, n), 6-n)
		}
	}
}

func TestP8_1CutOutOfRange(t *testing.T) {
	for _, n := range []int{-1, -2, 6, 7, 8, math.MinInt, math.MaxInt, 1 << 32, 1<<32 + 1, -1 << 32} {
		d := disk6()
		checkErr(t, "Cut of "+strconv.Itoa(n), d.Cut(n), api.ErrRange)
		check(t, "Cut of "+strconv.Itoa(n), d, []byte{1, 2, 3, 4, 5}, 2, 1)
	}
	d := disk6()
	d.Sync()
	checkErr(t, "Cut of 6", d.Cut(6), api.ErrRange)
	check(t, "Cut of 6", d, []byte{1, 2, 3, 4, 5}, 5, 1)
}

func TestP8_1CutOfNoBytes(t *testing.T) {
	for _, size := range []int{0, 1, most} {
		d := disk.New(size)
		checkErr(t, "Cut of 0", d.Cut(0), api.OK)
		checkErr(t, "Cut of -1", d.Cut(-1), api.ErrRange)
		checkErr(t, "Cut of 1", d.Cut(1), api.ErrRange)
		check(t, "Cut of no bytes", d, nil, 0, size)
	}
}

// What was cut off does not come back, and there is room for others where it was.
func TestP8_1AppendBehindACut(t *testing.T) {
	for n := range 6 {
		d := disk6()
		d.Cut(n)
		checkErr(t, "Cut of one more", d.Cut(n+1), api.ErrRange)
		checkErr(t, "Append of too many", d.Append(filled(7-n, 1)), api.ErrFull)
		checkErr(t, "Append of just so", d.Append(filled(6-n, 1)), api.OK)
		check(t, "Append behind a cut", d, append([]byte{1, 2, 3, 4, 5}[:n], filled(6-n, 1)...), min(2, n), 0)
	}
}

func TestP8_1Replace(t *testing.T) {
	for n := range 7 {
		d := disk6()
		checkErr(t, "Replace by "+strconv.Itoa(n), d.Replace(filled(n, 1)), api.OK)
		check(t, "Replace by "+strconv.Itoa(n), d, filled(n, 1), n, 6-n)
		checkErr(t, "Append behind Replace", d.Append(filled(6-n, 2)), api.OK)
		check(t, "Append behind Replace", d, append(filled(n, 1), filled(6-n, 2)...), n, 0)
	}
}

// All bytes make room: what fits is measured against the capacity, not against the room.
func TestP8_1ReplaceOfWhatFitsJustSo(t *testing.T) {
	for _, size := range []int{0, 1, 2, 6, 300, 4096, most} {
		for _, first := range []int{0, size / 2, size} {
			d := made(size, filled(first, 0), filled(size-first, 1))
			checkErr(t, "Replace of just so", d.Replace(filled(size, 2)), api.OK)
			check(t, "Replace of just so", d, filled(size, 2), size, 0)
		}
	}
}

func TestP8_1ReplaceOfOneByteMore(t *testing.T) {
	for _, size := range []int{0, 1, 2, 6, 300, 4096, most} {
		for _, first := range []int{0, size / 2, size} {
			d := made(size, filled(first/2, 0), filled(first-first/2, 1))
			checkErr(t, "Replace of one byte more", d.Replace(filled(size+1, 2)), api.ErrFull)
			check(t, "Replace of one byte more", d, append(filled(first/2, 0), filled(first-first/2, 1)...), first/2, size-first)
		}
	}
}

func TestP8_1ReplaceThatIsRefused(t *testing.T) {
	for _, n := range []int{7, 8, 4096, most, most + 1, 3 * most} {
		d := disk6()
		checkErr(t, "Replace by "+strconv.Itoa(n), d.Replace(filled(n, 1)), api.ErrFull)
		check(t, "Replace by "+strconv.Itoa(n), d, []byte{1, 2, 3, 4, 5}, 2, 1)
	}
}

func TestP8_1ReplaceByNone(t *testing.T) {
	for _, none := range [][]byte{nil, {}, filled(9, 1)[:0]} {
		for _, d := range []*disk.Disk{disk6(), made(6, nil, nil), made(6, filled(6, 0), nil), made(6, nil, filled(6, 0))} {
			checkErr(t, "Replace by none", d.Replace(none), api.OK)
			check(t, "Replace by none", d, nil, 0, 6)
		}
		d := disk.New(0)
		checkErr(t, "Replace by none", d.Replace(none), api.OK)
		check(t, "Replace by none", d, nil, 0, 0)
	}
}

func TestP8_2BytesSafeAndRoom(t *testing.T) {
	check(t, "a disk", disk6(), []byte{1, 2, 3, 4, 5}, 2, 1)
	check(t, "a full disk", made(5, []byte{1, 2}, []byte{3, 4, 5}), []byte{1, 2, 3, 4, 5}, 2, 0)
	check(t, "a full disk that is safe", made(2, []byte{1, 2}, nil), []byte{1, 2}, 2, 0)
	check(t, "a disk where nothing is safe", made(9, nil, []byte{7}), []byte{7}, 0, 8)
	check(t, "a full disk without bytes", disk.New(0), nil, 0, 0)
	check(t, "the greatest disk", made(most, filled(9, 0), filled(1000, 1)), append(filled(9, 0), filled(1000, 1)...), 9, most-1009)
}

func TestP8_2Copy(t *testing.T) {
	for _, size := range []int{0, 1, 6, most} {
		for _, safe := range []int{0, size / 2, size} {
			d := made(size, filled(safe, 0), filled((size-safe)/2, 1))
			c := d.Copy()
			if c == nil || c == d {
				t.Fatalf("Copy of a disk for %d is nil or the disk itself", size)
			}
			check(t, "a copy", c, d.Bytes(), d.Safe(), d.Room())
			checkErr(t, "Append of one more to a copy", c.Append(filled(d.Room()+1, 2)), api.ErrFull)
			checkErr(t, "Replace of one more on a copy", c.Replace(filled(size+1, 2)), api.ErrFull)
			checkErr(t, "Replace of just so on a copy", c.Replace(filled(size, 2)), api.OK)
			check(t, "a copy of a copy", c.Copy(), filled(size, 2), size, 0)
		}
	}
}

func TestP8_2NilDisk(t *testing.T) {
	var d *disk.Disk
	for _, b := range [][]byte{nil, {}, {1}, filled(most+1, 0)} {
		checkErr(t, "Append to nil", d.Append(b), api.ErrArg)
		checkErr(t, "Replace of nil", d.Replace(b), api.ErrArg)
	}
	for _, n := range []int{-1, 0, 1, math.MinInt, math.MaxInt} {
		checkErr(t, "Cut of nil", d.Cut(n), api.ErrArg)
		d.Crash(n, n, 1)
	}
	d.Sync()
	check(t, "nil", d, nil, 0, 0)
	if len(d.Bytes()) != 0 {
		t.Error("nil has bytes")
	}
	if d.Copy() != nil {
		t.Error("nil has a copy")
	}
	if disk.New(-1).Append(nil) != api.ErrArg || disk.New(most+1).Copy() != nil {
		t.Error("a disk of no size is not a nil one")
	}
}

// What New did not return is promised nothing; it is a disk for no bytes, and ends.
func TestOfAZeroDisk(t *testing.T) {
	d := new(disk.Disk)
	checkErr(t, "Append", d.Append([]byte{1}), api.ErrFull)
	checkErr(t, "Append of none", d.Append(nil), api.OK)
	checkErr(t, "Replace", d.Replace([]byte{1}), api.ErrFull)
	checkErr(t, "Cut", d.Cut(1), api.ErrRange)
	d.Sync()
	d.Crash(1, 0, 1)
	check(t, "a zero disk", d.Copy(), nil, 0, 0)
}

func TestExampleOfTheDocument(t *testing.T) {
	d := disk.New(most)
	d.Append([]byte{1, 2})
	d.Sync()
	d.Append([]byte{3, 4})
	d.Crash(1, 0, 8)
	if got := d.Bytes(); !bytes.Equal(got, []byte{1, 2, 11}) {
		t.Errorf("the bytes are %v, want 1 2 11", got)
	}
	check(t, "the example", d, []byte{1, 2, 11}, 3, most-3)
}
