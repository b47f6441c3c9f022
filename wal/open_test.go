package wal_test

import (
	"bytes"
	"slices"
	"strconv"
	"testing"

	"althing/api"
	"althing/disk"
	"althing/wal"
	"althing/wire"
)

func TestP9_1OpenOfNil(t *testing.T) {
	if l, err := wal.Open(nil); l != nil || err != api.ErrArg {
		t.Errorf("Open(nil) = %v, %d", l, err)
	}
}

func TestP9_1OpenOfADiskWithoutBytes(t *testing.T) {
	for _, size := range []int{0, 1, 500, most} {
		check(t, "Open of no bytes", opened(t, disk.New(size)), model{size: size})
	}
	d := made(100, framesOf(validRecords())[:50], []byte{1, 2, 3})
	d.Cut(0)
	check(t, "Open of a disk that was cut", opened(t, d), model{size: 100})
}

func TestP9_1OpenOfRecords(t *testing.T) {
	all := validRecords()
	for n := range all {
		l := opened(t, made(2000, nil, framesOf(all[:n])))
		check(t, "Open of records that are not safe", l, model{2000, all[:n], 0})
		l = opened(t, made(2000, framesOf(all[:n]), nil))
		check(t, "Open of records that are safe", l, model{2000, all[:n], len(framesOf(all[:n]))})
	}
	l := opened(t, made(len(framesOf(all)), framesOf(all), nil))
	check(t, "Open of a full disk", l, model{len(framesOf(all)), all, len(framesOf(all))})
}

func TestP9_1OpenTwice(t *testing.T) {
	l, m := log3(t)
	again := opened(t, l.Disk())
	check(t, "a log that was opened again", again, m)
	check(t, "the log that was opened first", l, m)
}

// checkOpen opens a disk of the bytes, of which each number may be safe, and says where it has not just these records.
func checkOpen(t *testing.T, what string, b []byte, want []api.Record) {
	t.Helper()
	end := len(framesOf(want))
	for _, safe := range []int{0, 1, end - 1, end, end + 1, len(b) - 1, len(b)} {
		if safe < 0 || safe > len(b) {
			continue
		}
		d := made(len(b)+7, b[:safe], b[safe:])
		check(t, what+", "+strconv.Itoa(safe)+" safe", opened(t, d), model{len(b) + 7, want, min(safe, end)})
	}
}

// All bytes are cut off from each place on: what is left of a frame is cut off, too.
func TestP9_1OpenOfAFrameThatIsCut(t *testing.T) {
	all := []api.Record{noop(1, 2, 5), busy(0, 300, 6), noop(1, 2, 7)}
	b := framesOf(all)
	for n := range len(b) + 1 {
		whole := 0
		for whole < len(all) && len(framesOf(all[:whole+1])) <= n {
			whole++
		}
		checkOpen(t, "Open of the first "+strconv.Itoa(n)+" bytes", b[:n], all[:whole])
	}
}

// A byte in the frame in the middle is another one: that frame and the one behind it are cut off.
func TestP9_1OpenOfAByteThatIsTurned(t *testing.T) {
	all := []api.Record{noop(1, 2, 5), busy(0, 300, 6), noop(1, 2, 7)}
	first, second := len(framesOf(all[:1])), len(framesOf(all[:2]))
	for at := range framesOf(all) {
		for _, by := range []byte{1, 2, 128, 255} {
			b := framesOf(all)
			b[at] ^= by
			left := all[:2]
			if at < second {
				left = all[:1]
			}
			if at < first {
				left = nil
			}
			checkOpen(t, "Open with byte "+strconv.Itoa(at)+" turned by "+strconv.Itoa(int(by)), b, left)
		}
	}
}

// encoded is a value's bytes.
func encoded(v any) []byte {
	b, _ := wire.Encode(v)
	return b
}

// notRecords are payloads that are not decoded to a record.
func notRecords() map[string][]byte {
	r := encoded(busy(3, 4, 5))
	invalid := slices.Clone(encoded(noop(0, 1, 1)))
	invalid[2] = 0 // its slot
	kept := slices.Clone(encoded(blank(0, 1)))
	kept[len(kept)-11] = 1 // a record with nothing known can't be kept
	return map[string][]byte{
		"a command":             encoded(busy(3, 4, 5).Cmd),
		"a Noop":                encoded(api.Command{}),
		"a message":             encoded(api.Message{Kind: api.MsgCommit, R: busy(3, 4, 5)}),
		"a record and a byte":   append(slices.Clone(r), 0),
		"two records":           slices.Concat(r, r),
		"a record that is cut":  r[:len(r)-1],
		"the mark of a record":  {2},
		"no mark":               {0},
		"a record without mark": r[1:],
		"zeros":                 make([]byte, 4096),
		"an invalid record":     invalid,
		"a kept blank record":   kept,
	}
}

func TestP9_1OpenOfAFrameOfNoRecord(t *testing.T) {
	all := []api.Record{noop(1, 2, 5), busy(0, 300, 6), noop(1, 2, 7)}
	for name, payload := range notRecords() {
		for n := range len(all) + 1 {
			b := slices.Concat(framesOf(all[:n]), framed(payload), framesOf(all[n:]))
			checkOpen(t, "Open with "+name+" behind "+strconv.Itoa(n), b, all[:n])
			b = slices.Concat(b, framed(payload), framesOf(all))
			checkOpen(t, "Open with "+name+" behind "+strconv.Itoa(n)+" and again", b, all[:n])
		}
	}
}

func TestP9_1OpenOfWhatIsNoFrame(t *testing.T) {
	all := []api.Record{noop(1, 2, 5), busy(0, 300, 6)}
	for _, junk := range [][]byte{{0}, {2}, {0, 0, 255, 255}, make([]byte, 100), bytes.Repeat([]byte{255}, 9), encoded(all[0]), frameOf(all[0])[1:]} {
		for n := range len(all) + 1 {
			checkOpen(t, "Open with junk", slices.Concat(framesOf(all[:n]), junk, framesOf(all[n:])), all[:n])
		}
	}
}

// What was cut off does not come back, and its room is there for others.
func TestP9_1AppendBehindAnOpenThatCut(t *testing.T) {
	a, b := noop(1, 2, 5), busy(0, 300, 6)
	for name, payload := range notRecords() {
		junk := slices.Concat(framed(payload), frameOf(b))
		d := made(len(frameOf(a))+len(junk), frameOf(a), junk)
		l := opened(t, d)
		m := model{len(frameOf(a)) + len(junk), []api.Record{a}, len(frameOf(a))}
		check(t, "Open with "+name, l, m)
		checkErr(t, "Append", l.Append(b), m.append(b))
		check(t, "Append where "+name+" was", l, m)
		check(t, "Open behind it", opened(t, d.Copy()), m)
	}
}

func TestP9_1OpenLeavesAWholeLogAsItIs(t *testing.T) {
	l, m := log3(t)
	b := l.Disk().Bytes()
	for range 3 {
		l = opened(t, l.Disk())
		check(t, "Open again", l, m)
	}
	if !bytes.Equal(l.Disk().Bytes(), b) {
		t.Error("Open changed the bytes of a log")
	}
}
