package disk_test

import (
	"bytes"
	"testing"

	"althing/api"
	"althing/disk"
)

// someBytes are bytes of sizes at which memory is given out differently.
func someBytes() [][]byte {
	var l [][]byte
	for _, n := range []int{0, 1, 2, 5, 8, 9, 100, 4096, 5000} {
		l = append(l, filled(n, n))
	}
	return l
}

func TestP8_1AppendLeavesItsArgument(t *testing.T) {
	for _, want := range someBytes() {
		for _, start := range [][]byte{nil, {1}, filled(100, 1)} {
			b, untouched := withSpare(want)
			d := made(9000, start, nil)
			checkErr(t, "Append", d.Append(b), api.OK)
			d.Append([]byte{7, 7})
			d.Crash(9000, 0, 255)
			d.Append([]byte{8})
			d.Cut(len(start))
			d.Append([]byte{9, 9, 9})
			spoil(d.Bytes())
			if !untouched() {
				t.Errorf("Append of %d bytes behind %d, or a later call, changed the argument", len(want), len(start))
			}
		}
	}
}

func TestP8_1AppendKeepsNothingOfItsArgument(t *testing.T) {
	for _, want := range someBytes() {
		for _, start := range [][]byte{nil, {1}, filled(100, 1)} {
			b, _ := withSpare(want)
			d := made(9000, start, nil)
			d.Append(b)
			spoil(b)
			check(t, "a disk whose argument was changed", d, append(bytes.Clone(start), want...), len(start), 9000-len(start)-len(want))
		}
	}
}

func TestP8_1AppendThatIsRefusedLeavesItsArgument(t *testing.T) {
	b, untouched := withSpare(filled(5, 0))
	d := made(6, []byte{1, 2}, nil)
	checkErr(t, "Append", d.Append(b), api.ErrFull)
	d.Append([]byte{3})
	if !untouched() {
		t.Error("Append that is refused changed its argument")
	}
	spoil(b)
	check(t, "a disk that refused", d, []byte{1, 2, 3}, 2, 3)
}

func TestP8_1ReplaceLeavesItsArgument(t *testing.T) {
	for _, want := range someBytes() {
		b, untouched := withSpare(want)
		d := made(9000, []byte{1, 2}, []byte{3})
		checkErr(t, "Replace", d.Replace(b), api.OK)
		d.Append([]byte{7, 7})
		d.Crash(1, 0, 255)
		d.Cut(0)
		d.Append([]byte{9, 9, 9})
		spoil(d.Bytes())
		if !untouched() {
			t.Errorf("Replace by %d bytes, or a later call, changed the argument", len(want))
		}
	}
}

func TestP8_1ReplaceKeepsNothingOfItsArgument(t *testing.T) {
	for _, want := range someBytes() {
		b, _ := withSpare(want)
		d := made(9000, []byte{1, 2}, []byte{3})
		d.Replace(b)
		spoil(b)
		check(t, "a disk whose argument was changed", d, want, len(want), 9000-len(want))
	}
}

func TestP8_1ReplaceThatIsRefusedLeavesItsArgument(t *testing.T) {
	b, untouched := withSpare(filled(7, 0))
	d := disk6()
	checkErr(t, "Replace", d.Replace(b), api.ErrFull)
	d.Append([]byte{6})
	if !untouched() {
		t.Error("Replace that is refused changed its argument")
	}
	spoil(b)
	check(t, "a disk that refused", d, []byte{1, 2, 3, 4, 5, 6}, 2, 0)
}

func TestP8_2BytesAreNewMemory(t *testing.T) {
	for _, want := range someBytes() {
		for _, d := range []*disk.Disk{made(9000, want, nil), made(9000, nil, want), made(len(want), want[:len(want)/2], want[len(want)/2:])} {
			safe, room := d.Safe(), d.Room()
			first, second := d.Bytes(), d.Bytes()
			spoil(first)
			check(t, "a disk whose bytes were changed", d, want, safe, room)
			if !bytes.Equal(second, want) {
				t.Errorf("two results of Bytes share memory: %.20x..", second)
			}
			d.Append([]byte{1})
			d.Crash(9000, 0, 255)
			d.Cut(0)
			d.Append([]byte{2})
			d.Replace(nil)
			if !bytes.Equal(second, want) {
				t.Errorf("a result of Bytes follows the disk: %.20x..", second)
			}
		}
	}
}

// What is appended to a result of Bytes goes nowhere where a disk puts its own.
func TestP8_2BytesAppendedToAResult(t *testing.T) {
	d := disk6()
	first, second := d.Bytes(), d.Bytes()
	first, second = append(first, 77), append(second, 88)
	checkErr(t, "Append", d.Append([]byte{6}), api.OK)
	check(t, "a disk", d, []byte{1, 2, 3, 4, 5, 6}, 2, 0)
	if !bytes.Equal(first, []byte{1, 2, 3, 4, 5, 77}) || !bytes.Equal(second, []byte{1, 2, 3, 4, 5, 88}) {
		t.Errorf("results of Bytes share memory: %v, %v", first, second)
	}
}

// A disk takes its own bytes as an argument.
func TestP8_1OfItsOwnBytes(t *testing.T) {
	d := made(10, []byte{1, 2}, []byte{3})
	checkErr(t, "Append", d.Append(d.Bytes()), api.OK)
	check(t, "Append of its own", d, []byte{1, 2, 3, 1, 2, 3}, 2, 4)
	checkErr(t, "Replace", d.Replace(d.Bytes()[1:4]), api.OK)
	check(t, "Replace by its own", d, []byte{2, 3, 1}, 3, 7)
}

// changes are all calls that may change a disk, each so that it would be seen of a disk6.
func changes() []call {
	return []call{
		callAppend("1", []byte{66}), callAppend("none", nil), callAppend("too many", []byte{66, 67}),
		callSync(),
		callCut("0", 0), callCut("1", 1), callCut("4", 4), callCut("6", 6),
		callReplace("none", nil), callReplace("3", []byte{9, 8, 7}), callReplace("too many", make([]byte, 7)),
		callCrash("0", 0, 0, 255), callCrash("3, turned", 3, 0, 255), callCrash("2, turned", 2, 1, 255),
	}
}

// twins are ways to come by a second disk that has what the first one has.
func twins() map[string]func(d *disk.Disk) *disk.Disk {
	return map[string]func(d *disk.Disk) *disk.Disk{
		"Copy":           (*disk.Disk).Copy,
		"a copy of Copy": func(d *disk.Disk) *disk.Disk { return d.Copy().Copy() },
		"a value": func(d *disk.Disk) *disk.Disk {
			c := *d
			return &c
		},
		"a value of Copy": func(d *disk.Disk) *disk.Disk {
			c := *d.Copy()
			return &c
		},
	}
}

// sources are disks for 6 bytes that have 1 2 3 4 5, of which 1 2 are safe, come by in several ways, as their memory may differ.
func sources() map[string]func() *disk.Disk {
	return map[string]func() *disk.Disk{
		"appended": disk6,
		"appended one by one": func() *disk.Disk {
			d := made(6, []byte{1}, nil)
			d.Append([]byte{2})
			d.Sync()
			d.Append([]byte{3})
			d.Append([]byte{4})
			d.Append([]byte{5})
			return d
		},
		"cut": func() *disk.Disk {
			d := made(6, []byte{1, 2}, []byte{3, 4, 5, 6})
			d.Cut(5)
			return d
		},
		"cut within": func() *disk.Disk {
			d := made(6, []byte{1, 2}, []byte{9, 9, 9})
			d.Cut(2)
			d.Append([]byte{3, 4, 5})
			return d
		},
		"replaced": func() *disk.Disk {
			d := made(6, []byte{9, 9, 9}, []byte{9})
			d.Replace([]byte{1, 2})
			d.Append([]byte{3, 4, 5})
			return d
		},
		"crashed": func() *disk.Disk {
			d := made(6, nil, []byte{1, 0, 9, 9})
			d.Crash(2, 1, 2)
			d.Append([]byte{3, 4, 5})
			return d
		},
		"a copy": func() *disk.Disk { return disk6().Copy() },
	}
}

// Of a disk and its twin, each takes two calls; each is what it would be alone.
func TestP8_2TwinsAreApart(t *testing.T) {
	for source, start := range sources() {
		for way, twin := range twins() {
			for _, a := range changes() {
				for _, b := range changes() {
					checkTwins(t, source+", "+way+": "+a.name+" and "+b.name, start(), twin, a, b)
				}
			}
		}
	}
}

func checkTwins(t *testing.T, what string, d *disk.Disk, twin func(d *disk.Disk) *disk.Disk, a, b call) {
	t.Helper()
	c := twin(d)
	if c == d {
		t.Fatalf("%s: the disk itself", what)
	}
	m, n := model{6, []byte{1, 2, 3, 4, 5}, 2}, model{6, []byte{1, 2, 3, 4, 5}, 2}
	same := func(when string) {
		t.Helper()
		check(t, what+": the original "+when, d, m.content, m.safe, 6-len(m.content))
		check(t, what+": the other one "+when, c, n.content, n.safe, 6-len(n.content))
	}
	same("at first")
	checkErr(t, what, a.do(d), a.told(&m))
	same("behind the first call")
	checkErr(t, what, b.do(c), b.told(&n))
	same("behind the second call")
	checkErr(t, what, b.do(d), b.told(&m))
	same("behind the third call")
	checkErr(t, what, a.do(c), a.told(&n))
	same("behind the fourth call")
}

// Disks that have the same memory put different bytes behind, in turns, also behind a cut and where one is set back.
func TestP8_2ValuesAppendApart(t *testing.T) {
	d := disk.New(100)
	d.Append([]byte("abc"))
	d.Append([]byte("de"))
	e := *d
	f := *d
	d.Append([]byte("1"))
	e.Append([]byte("2"))
	f.Cut(4)
	g := f
	f.Append([]byte("3"))
	g.Append([]byte("45"))
	check(t, "the first one", d, []byte("abcde1"), 0, 94)
	check(t, "the second one", &e, []byte("abcde2"), 0, 94)
	check(t, "the third one", &f, []byte("abcd3"), 0, 95)
	check(t, "the fourth one", &g, []byte("abcd45"), 0, 94)

	before := *d
	d.Append([]byte("6"))
	later := *d
	*d = before
	d.Append([]byte("7"))
	check(t, "what was set back", d, []byte("abcde17"), 0, 93)
	check(t, "what it was", &later, []byte("abcde16"), 0, 93)
}

// New memory may be shared too: what a crash left, or Replace brought, is not overwritten where it is cut and goes on, however many bytes the old memory had.
func TestP8_2ValuesOfNewMemoryAreApart(t *testing.T) {
	want := []byte{1, 2, 3, 4, 5}
	for name, renew := range map[string]func(n int) *disk.Disk{
		"Crash": func(n int) *disk.Disk {
			d := made(9, want[:n], want[n:])
			d.Crash(9, -1, 0)
			return d
		},
		"Replace": func(n int) *disk.Disk {
			d := made(9, filled(n, 0), nil)
			d.Replace(want)
			return d
		},
	} {
		for n := range 6 {
			d := renew(n)
			e := *d
			d.Cut(n)
			d.Append([]byte{7})
			check(t, name+": the other one", &e, want, 5, 4)
			e.Append([]byte{9})
			check(t, name+": the disk", d, append(bytes.Clone(want[:n]), 7), n, 8-n)
		}
	}
}
