package disk_test

import (
	"bytes"
	"slices"
	"testing"

	"althing/api"
	"althing/disk"
)

const most = 1 << 20 // the greatest capacity

// disk6 is a disk for 6 bytes that has 1 2 3 4 5, of which 1 2 are safe.
func disk6() *disk.Disk {
	return made(6, []byte{1, 2}, []byte{3, 4, 5})
}

// made is a disk of some capacity that has bytes that are safe and, behind them, others that are not.
func made(size int, safe, rest []byte) *disk.Disk {
	d := disk.New(size)
	d.Append(safe)
	d.Sync()
	d.Append(rest)
	return d
}

// filled is n bytes that differ, the same ones for the same n and seed.
func filled(n, seed int) []byte {
	b := make([]byte, n)
	for i := range b {
		b[i] = byte(i*7 + i>>8*31 + seed*53 + 1)
	}
	return b
}

// withSpare is b with other bytes in its spare capacity, and a function that tells whether b and those are as they were.
func withSpare(b []byte) ([]byte, func() bool) {
	all := slices.Concat(b, filled(64, 3))
	before := slices.Clone(all)
	return all[:len(b)], func() bool { return bytes.Equal(all, before) }
}

// spoil overwrites b and its spare capacity.
func spoil(b []byte) {
	b = b[:cap(b)]
	for i := range b {
		b[i] = ^b[i]
	}
}

// check says where d has not these bytes, as many of them safe, and room for as many more.
func check(t *testing.T, what string, d *disk.Disk, want []byte, safe, room int) {
	t.Helper()
	if got := d.Bytes(); !bytes.Equal(got, want) || d.Safe() != safe || d.Room() != room {
		t.Errorf("%s: %d bytes: %.20x.., %d safe, room for %d, want %d: %.20x.., %d, %d", what, len(got), got, d.Safe(), d.Room(), len(want), want, safe, room)
	}
}

func checkErr(t *testing.T, what string, got, want api.Errno) {
	t.Helper()
	if got != want {
		t.Errorf("%s = %d, want %d", what, got, want)
	}
}

// call is a call of a disk that may change it, and what the document says that it does.
type call struct {
	name string
	do   func(d *disk.Disk) api.Errno
	told func(m *model) api.Errno
}

// model is a disk as the document words it.
type model struct {
	size    int
	content []byte
	safe    int
}

func (m *model) append(b []byte) api.Errno {
	if len(m.content)+len(b) > m.size {
		return api.ErrFull
	}
	m.content = slices.Concat(m.content, b)
	return api.OK
}

func (m *model) sync() api.Errno {
	m.safe = len(m.content)
	return api.OK
}

func (m *model) cut(n int) api.Errno {
	if n < 0 || n > len(m.content) {
		return api.ErrRange
	}
	var left []byte
	for k, x := range m.content {
		if k < n {
			left = append(left, x)
		}
	}
	if m.safe > n {
		m.safe = n
	}
	m.content = left
	return api.OK
}

func (m *model) replace(b []byte) api.Errno {
	if len(b) > m.size {
		return api.ErrFull
	}
	m.content = slices.Clone(b)
	return m.sync()
}

func (m *model) crash(keep, at int, by byte) api.Errno {
	var left []byte
	for k, x := range m.content {
		loose := k - m.safe // the index among the bytes that are not safe
		if loose == at && loose >= 0 {
			x ^= by
		}
		if loose < 0 || loose < keep {
			left = append(left, x)
		}
	}
	m.content = left
	return m.sync()
}

func callAppend(name string, b []byte) call {
	return call{"Append " + name, func(d *disk.Disk) api.Errno { return d.Append(b) }, func(m *model) api.Errno { return m.append(b) }}
}

func callCut(name string, n int) call {
	return call{"Cut " + name, func(d *disk.Disk) api.Errno { return d.Cut(n) }, func(m *model) api.Errno { return m.cut(n) }}
}

func callReplace(name string, b []byte) call {
	return call{"Replace " + name, func(d *disk.Disk) api.Errno { return d.Replace(b) }, func(m *model) api.Errno { return m.replace(b) }}
}

func callCrash(name string, keep, at int, by byte) call {
	do := func(d *disk.Disk) api.Errno {
		d.Crash(keep, at, by)
		return api.OK
	}
	return call{"Crash " + name, do, func(m *model) api.Errno { return m.crash(keep, at, by) }}
}

func callSync() call {
	do := func(d *disk.Disk) api.Errno {
		d.Sync()
		return api.OK
	}
	return call{"Sync", do, (*model).sync}
}
