package frame_test

import (
	"bytes"
	"hash/crc32"
	"math"
	"slices"
	"testing"

	"althing/api"
	"althing/frame"
)

const most = 4096 // the greatest payload

// filled is n bytes that differ, the same ones for the same n and seed.
func filled(n, seed int) []byte {
	b := make([]byte, n)
	for i := range b {
		b[i] = byte(i*7 + i>>8*31 + seed*53 + 1)
	}
	return b
}

// sumByBits is the checksum as the document words it, bit by bit.
func sumByBits(b []byte) uint32 {
	number := uint32(1<<32 - 1)
	for _, x := range b {
		for bit := range 8 {
			isOne := number&1^uint32(x>>bit)&1 == 1
			number /= 2
			if isOne {
				number ^= 0xedb88320
			}
		}
	}
	return ^number
}

// withSum is b with its checksum behind it, made without package frame.
func withSum(b []byte) []byte {
	sum := sumByBits(b)
	return append(slices.Clone(b), byte(sum), byte(sum>>8), byte(sum>>16), byte(sum>>24))
}

// claimed is a frame that says that its payload has n bytes, whether it has or not.
func claimed(n int, payload []byte) []byte {
	head := []byte{byte(n % 256), byte(n / 256), byte(255 - n%256), byte(255 - n/256)}
	return withSum(append(head, payload...))
}

func framed(payload []byte) []byte {
	return claimed(len(payload), payload)
}

// someSizes are sizes of payloads, those on the edges among them.
func someSizes() []int {
	return []int{1, 2, 3, 4, 5, 8, 9, 100, 127, 128, 254, 255, 256, 257, 511, 512, 1000, 4095, most}
}

// notSizes are sizes that no payload has.
func notSizes() []int {
	return []int{math.MinInt, math.MinInt + 1, -1 << 32, -1<<32 + 1, -4097, -4096, -256, -9, -8, -4, -2, -1, 0,
		4097, 4098, 4104, 4105, 8192, 65535, 65536, 65537, 1 << 20, 1<<31 - 1, 1 << 31, 1 << 32, 1<<32 + 1, 1<<32 + 4096, math.MaxInt - 8, math.MaxInt}
}

// somePayloads are payloads of all those sizes, and some that look like parts of frames.
func somePayloads() [][]byte {
	l := [][]byte{{0}, {255}, {0, 0, 0, 0}, {255, 255, 255, 255}, {1, 0, 254, 255}, framed([]byte("a")), make([]byte, most), bytes.Repeat([]byte{255}, most)}
	for _, n := range someSizes() {
		l = append(l, filled(n, 0), filled(n, 1))
	}
	return l
}

// behind are bytes that may stand behind a frame.
func behind() [][]byte {
	return [][]byte{nil, {}, {0}, {255}, {1, 0, 254}, {1, 0, 254, 255}, {0, 0, 255, 255}, []byte("xyz12"), filled(20, 2), framed([]byte("next"))}
}

// withSpare is b with other bytes in its spare capacity, and a function that tells whether b and those are as they were.
func withSpare(b []byte) ([]byte, func() bool) {
	all := slices.Concat(b, filled(64, 3))
	before := slices.Clone(all)
	return all[:len(b)], func() bool { return bytes.Equal(all, before) }
}

// spoil overwrites b and its spare capacity.
func spoil(b []byte) {
	b = b[:cap(b)]
	for i := range b {
		b[i] = ^b[i]
	}
}

func equalLists(a, b [][]byte) bool {
	return slices.EqualFunc(a, b, bytes.Equal)
}

func checkGet(t *testing.T, b, want []byte, wantSize int, wantErr api.Errno) {
	t.Helper()
	payload, size, err := frame.Get(b)
	if !bytes.Equal(payload, want) || size != wantSize || err != wantErr {
		t.Errorf("Get(%d bytes: %.20x..) = %.20x, %d, %d, want %.20x, %d, %d", len(b), b, payload, size, err, want, wantSize, wantErr)
	}
}

func checkNoFrame(t *testing.T, b []byte, wantErr api.Errno) {
	t.Helper()
	checkGet(t, b, nil, 0, wantErr)
	checkScan(t, b, nil, 0)
}

func checkScan(t *testing.T, b []byte, want [][]byte, wantSize int) {
	t.Helper()
	payloads, size := frame.Scan(b)
	if !equalLists(payloads, want) || size != wantSize {
		t.Errorf("Scan(%d bytes: %.20x..) = %d payloads: %.20x, %d, want %d: %.20x, %d", len(b), b, len(payloads), payloads, size, len(want), want, wantSize)
	}
}

func TestP6_1Sum(t *testing.T) {
	for text, want := range map[string]uint32{
		"":          0,
		"123456789": 0xcbf43926,
		"a":         0xe8b7be43,
		"abc":       0x352441c2,
		"\x00":      0xd202ef8d,
		"\xff":      0xff000000,
		"The quick brown fox jumps over the lazy dog": 0x414fa339,
	} {
		if got := frame.Sum([]byte(text)); got != want {
			t.Errorf("Sum(%q) = %08x, want %08x", text, got, want)
		}
	}
	if got := frame.Sum(nil); got != 0 {
		t.Errorf("Sum(nil) = %08x", got)
	}
}

// All bytes, alone and behind another one, take every row of a table in both halves of a byte.
func TestP6_1SumOfAllBytes(t *testing.T) {
	for x := range 256 {
		for _, b := range [][]byte{{byte(x)}, {0, byte(x)}, {byte(x), 0}, {byte(x), 255, byte(x)}} {
			if got, want := frame.Sum(b), sumByBits(b); got != want {
				t.Errorf("Sum(%x) = %08x, want %08x", b, got, want)
			}
		}
	}
}

func TestP6_1SumOfMany(t *testing.T) {
	for _, n := range append(someSizes(), 0, 4097, 4104, 65535, 65536, 1<<20) {
		for seed := range 3 {
			b := filled(n, seed)
			if got, want := frame.Sum(b), crc32.ChecksumIEEE(b); got != want || want != sumByBits(b) {
				t.Errorf("Sum of %d bytes = %08x, want %08x", n, got, want)
			}
		}
		for _, x := range []byte{0, 1, 128, 255} {
			b := bytes.Repeat([]byte{x}, n)
			if got, want := frame.Sum(b), crc32.ChecksumIEEE(b); got != want {
				t.Errorf("Sum of %d bytes %d = %08x, want %08x", n, x, got, want)
			}
		}
	}
}

func TestP6_1SumLeavesItsArgument(t *testing.T) {
	b, untouched := withSpare(filled(100, 0))
	if frame.Sum(b) != frame.Sum(b) || !untouched() {
		t.Error("Sum changed its argument")
	}
}

func TestP6_1Size(t *testing.T) {
	for n := 1; n <= most; n++ {
		if got := frame.Size(n); got != n+8 {
			t.Errorf("Size(%d) = %d", n, got)
		}
	}
	for _, n := range notSizes() {
		if got := frame.Size(n); got != 0 {
			t.Errorf("Size(%d) = %d", n, got)
		}
	}
}

func TestP6_1PutByHand(t *testing.T) {
	for _, c := range []struct{ b, payload, want string }{
		{"", "a", "\x01\x00\xfe\xffa\xcb\x2c\x89\xed"},
		{"x", "ab", "x\x02\x00\xfd\xffab\xad\xa0\xc4\xe9"},
	} {
		if got, err := frame.Put([]byte(c.b), []byte(c.payload)); string(got) != c.want || err != api.OK {
			t.Errorf("Put(%q, %q) = %x, %d, want %x", c.b, c.payload, got, err, c.want)
		}
	}
}

func TestP6_1Put(t *testing.T) {
	for _, payload := range somePayloads() {
		for _, b := range append(behind(), filled(5000, 4), framed(payload)) {
			got, err := frame.Put(b, payload)
			if want := slices.Concat(b, framed(payload)); !bytes.Equal(got, want) || err != api.OK {
				t.Errorf("Put(%.20x, %.20x) = %.40x, %d, want %.40x", b, payload, got, err, want)
			}
			if len(got) != len(b)+frame.Size(len(payload)) {
				t.Errorf("Put behind %d bytes of %d bytes has %d", len(b), len(payload), len(got))
			}
		}
	}
}

func TestP6_1PutOfNoPayload(t *testing.T) {
	for _, payload := range [][]byte{nil, {}, filled(10, 0)[:0], filled(4097, 0), filled(4098, 0), filled(8192, 0), filled(65536, 0), filled(65537, 0)} {
		for _, b := range behind() {
			if got, err := frame.Put(b, payload); len(got) != 0 || err != api.ErrArg {
				t.Errorf("Put(%x, %d bytes) = %x, %d", b, len(payload), got, err)
			}
		}
	}
}

// The bytes behind which the frame is put are not looked at: they need not be frames.
func TestP6_1PutBehindAnything(t *testing.T) {
	for _, b := range [][]byte{{0}, {1, 0, 255, 255}, claimed(0, nil), framed([]byte("a"))[:8], filled(70000, 0)} {
		got, err := frame.Put(b, []byte("ab"))
		if !bytes.Equal(got, slices.Concat(b, framed([]byte("ab")))) || err != api.OK {
			t.Errorf("Put(%.20x, ab) = %.40x, %d", b, got, err)
		}
	}
}

func TestP6_1PutIsNewMemory(t *testing.T) {
	for _, start := range behind() {
		want := slices.Concat(start, framed([]byte("abc")))
		b, untouched := withSpare(start)
		payload, untouchedPayload := withSpare([]byte("abc"))
		first, _ := frame.Put(b, payload)
		second, _ := frame.Put(b, payload)
		if !untouched() || !untouchedPayload() {
			t.Errorf("Put(%x, abc) changed an argument", start)
		}
		spoil(first)
		if !untouched() || !untouchedPayload() || !bytes.Equal(second, want) {
			t.Errorf("the result of Put(%x, abc) shares memory", start)
		}
		spoil(b)
		spoil(payload)
		if !bytes.Equal(second, want) {
			t.Errorf("the result of Put(%x, abc) follows an argument: %x", start, second)
		}
	}
}

// The payload may be a part of the bytes, or stand in their spare capacity, where a frame must not be written over it.
func TestP6_1PutOfOneMemory(t *testing.T) {
	for _, c := range []struct{ end, from, to int }{{10, 0, 10}, {10, 3, 7}, {10, 8, 14}, {10, 10, 20}, {10, 11, 30}, {0, 0, 5}, {10, 14, 15}} {
		all := filled(64, 5)
		before := slices.Clone(all)
		want := slices.Concat(before[:c.end], framed(before[c.from:c.to]))
		got, err := frame.Put(all[:c.end], all[c.from:c.to])
		if !bytes.Equal(got, want) || err != api.OK {
			t.Errorf("Put of %v of one memory = %x, %d, want %x", c, got, err, want)
		}
		spoil(got)
		if !bytes.Equal(all, before) {
			t.Errorf("Put of %v of one memory changed it", c)
		}
	}
}

func TestP6_1PutOfNoPayloadLeavesItsArguments(t *testing.T) {
	b, untouched := withSpare([]byte("abc"))
	for _, c := range [][]byte{nil, filled(4097, 0)} {
		payload, untouchedPayload := withSpare(c)
		got, _ := frame.Put(b, payload)
		spoil(got)
		if !untouched() || !untouchedPayload() {
			t.Errorf("Put of %d bytes changed an argument", len(c))
		}
	}
}

func TestP6_2GetOfTooFew(t *testing.T) {
	for _, start := range [][]byte{{1, 0, 254, 255}, {0, 0, 0, 0}, {255, 255, 255, 255}, {0, 0, 255, 255}, {1, 16, 254, 239}} {
		for n := range 4 {
			checkNoFrame(t, start[:n], api.ErrShort)
			checkNoFrame(t, slices.Clip(start[:n]), api.ErrShort)
		}
	}
	checkNoFrame(t, nil, api.ErrShort)
	checkNoFrame(t, []byte{}, api.ErrShort)
}

func TestP6_2GetOfOnlyAHead(t *testing.T) {
	checkNoFrame(t, []byte{1, 0, 254, 255}, api.ErrShort)
	checkNoFrame(t, []byte{0, 16, 255, 239}, api.ErrShort)
	checkNoFrame(t, []byte{0, 0, 255, 255}, api.ErrForm)
	checkNoFrame(t, []byte{1, 16, 254, 239}, api.ErrForm)
	checkNoFrame(t, []byte{1, 0, 0, 0}, api.ErrForm)
	checkNoFrame(t, []byte{1, 0, 1, 0}, api.ErrForm)
	checkNoFrame(t, []byte{1, 0, 255, 254}, api.ErrForm)
}

// Each head that can be, with nothing behind it: the length decides whether bytes are missing or the head is none.
func TestP6_2GetOfEachLength(t *testing.T) {
	for n := range 1 << 16 {
		b := claimed(n, nil)[:4]
		want := api.ErrForm
		if n >= 1 && n <= most {
			want = api.ErrShort
		}
		if payload, size, err := frame.Get(b); len(payload) != 0 || size != 0 || err != want {
			t.Fatalf("Get(%x) = %x, %d, %d, want %d", b, payload, size, err, want)
		}
	}
}

// The lengths are inverted rightly, the checksums right, and as many bytes there as they say.
func TestP6_2GetOfNoLength(t *testing.T) {
	for _, n := range []int{0, 4097, 4098, 4352, 8191, 8192, 32768, 65535} {
		whole := claimed(n, filled(n, 0))
		checkNoFrame(t, whole, api.ErrForm)
		checkNoFrame(t, whole[:4], api.ErrForm)
		checkNoFrame(t, whole[:min(len(whole), 100)], api.ErrForm)
		checkNoFrame(t, append(whole, framed([]byte("next"))...), api.ErrForm)
	}
}

func TestP6_2GetOfNoInverse(t *testing.T) {
	for _, n := range []int{1, 2, 255, 256, 257, most} {
		good := framed(filled(n, 0))
		for k := range 4 {
			for change := 1; change < 256; change++ {
				bad := slices.Clone(good[:len(good)-4])
				bad[k] ^= byte(change)
				checkNoFrame(t, withSum(bad), api.ErrForm)
				checkNoFrame(t, bad[:4], api.ErrForm)
			}
		}
	}
}

func TestP6_2GetOfAFrameThatIsLonger(t *testing.T) {
	for _, n := range []int{1, 2, 100, 255, 256, 4095, most} {
		whole := framed(filled(n, 0))
		for _, missing := range []int{1, 2, 3, 4, 5, len(whole) - 5, len(whole) - 4} {
			// What stands in the spare capacity does not count.
			checkNoFrame(t, whole[:len(whole)-missing], api.ErrShort)
			checkNoFrame(t, slices.Clip(whole[:len(whole)-missing]), api.ErrShort)
		}
	}
	// Missing bytes are mentioned ahead of a wrong checksum.
	checkNoFrame(t, []byte{1, 0, 254, 255, 'a', 0, 0, 0}, api.ErrShort)
	checkNoFrame(t, []byte{2, 0, 253, 255, 'a', 'b', 0, 0, 0}, api.ErrShort)
}

func TestP6_2GetOfAWrongSum(t *testing.T) {
	checkNoFrame(t, []byte{1, 0, 254, 255, 0, 0, 0, 0, 0}, api.ErrSum)
	for _, payload := range somePayloads() {
		whole := framed(payload)
		n := len(whole)
		for k := n - 4; k < n; k++ {
			for _, change := range []byte{1, 2, 16, 128, 255} {
				bad := slices.Clone(whole)
				bad[k] ^= change
				checkNoFrame(t, bad, api.ErrSum)
			}
		}
	}
}

// Each is a checksum of something else, or in another order.
func TestP6_2GetOfAnotherSum(t *testing.T) {
	payload := filled(50, 0)
	whole := framed(payload)
	body := whole[:len(whole)-4]
	sum := sumByBits(body)
	for _, other := range []uint32{^sum, 0, sumByBits(payload), sumByBits(body[:4]), sumByBits(body[2:]), sumByBits(whole), sum + 1, sum - 1} {
		bad := append(slices.Clone(body), byte(other), byte(other>>8), byte(other>>16), byte(other>>24))
		checkNoFrame(t, bad, api.ErrSum)
	}
	checkNoFrame(t, append(slices.Clone(body), byte(sum>>24), byte(sum>>16), byte(sum>>8), byte(sum)), api.ErrSum)
}

func TestP6_2Get(t *testing.T) {
	for _, payload := range somePayloads() {
		for _, after := range behind() {
			checkGet(t, slices.Concat(framed(payload), after), payload, len(payload)+8, api.OK)
		}
	}
}

// Get reads at the beginning only: what stands ahead of a frame hides it.
func TestP6_2GetOnlyAtTheBeginning(t *testing.T) {
	whole := framed([]byte("abc"))
	checkNoFrame(t, slices.Concat([]byte{0}, whole), api.ErrForm)
	checkNoFrame(t, slices.Concat([]byte{1, 0, 254, 255}, whole), api.ErrSum)
	checkNoFrame(t, slices.Concat([]byte("xyz1"), whole), api.ErrForm)
	checkNoFrame(t, slices.Concat(whole[1:], whole), api.ErrForm)
	checkNoFrame(t, slices.Concat([]byte{0, 16, 255, 239}, whole), api.ErrShort)
}

func TestP6_2GetIsNewMemory(t *testing.T) {
	for _, want := range somePayloads() {
		b, untouched := withSpare(slices.Concat(framed(want), framed([]byte("next"))))
		first, _, _ := frame.Get(b)
		second, _, _ := frame.Get(b)
		if !untouched() {
			t.Errorf("Get of %d bytes changed its argument", len(want))
		}
		spoil(first)
		if !untouched() || !bytes.Equal(second, want) {
			t.Errorf("a payload of %d bytes shares memory", len(want))
		}
		spoil(b)
		if !bytes.Equal(second, want) {
			t.Errorf("a payload of %d bytes follows the argument", len(want))
		}
	}
}

func TestP6_2GetOfNoFrameLeavesItsArgument(t *testing.T) {
	whole := framed([]byte("abc"))
	for _, c := range [][]byte{nil, whole[:3], whole[:4], whole[:10], {1, 0, 255, 255, 0}, claimed(0, nil), claimed(3, []byte("abcd"))} {
		b, untouched := withSpare(c)
		payload, _, _ := frame.Get(b)
		spoil(payload)
		payloads, _ := frame.Scan(b)
		clear(payloads[:cap(payloads)])
		if !untouched() {
			t.Errorf("Get or Scan of %x changed it", c)
		}
	}
}

func TestP6_2Scan(t *testing.T) {
	var b []byte
	var want [][]byte
	checkScan(t, nil, nil, 0)
	checkScan(t, []byte{}, nil, 0)
	for _, payload := range somePayloads() {
		b, want = append(b, framed(payload)...), append(want, payload)
		checkScan(t, b, want, len(b))
	}
}

// Scan stops at each kind of error of Get, and does not go on behind it.
func TestP6_2ScanUpToTheFirstError(t *testing.T) {
	a, b := framed([]byte("a")), framed([]byte("bc"))
	want := [][]byte{[]byte("a"), []byte("bc")}
	total := len(a) + len(b)
	wrong := framed([]byte("wrong"))
	wrong[len(wrong)-1]++
	for _, after := range [][]byte{nil, {0}, {1, 0, 254}, {1, 0, 254, 255}, {0, 0, 0, 0}, {0, 16, 255, 239}, claimed(0, nil), claimed(4097, filled(4097, 0)), claimed(9, []byte("abc")), wrong, []byte("something else")} {
		checkScan(t, slices.Concat(a, b, after), want, total)
		checkScan(t, after, nil, 0)
	}
	for _, after := range [][]byte{{0}, {0, 0, 0, 0}, claimed(0, nil), claimed(4097, filled(4097, 0)), wrong, []byte("something else")} {
		checkScan(t, slices.Concat(a, b, after, a), want, total)
		checkScan(t, slices.Concat(after, a, b), nil, 0)
	}
}

// What stands in the spare capacity is no frame of the argument.
func TestP6_2ScanOnlyOfTheArgument(t *testing.T) {
	a, b := framed([]byte("a")), framed([]byte("bc"))
	all := slices.Concat(a, b)
	checkScan(t, all[:len(a)], [][]byte{[]byte("a")}, len(a))
	checkScan(t, all[:0], nil, 0)
	checkScan(t, all[:len(all)-1], [][]byte{[]byte("a")}, len(a))
}

func TestP6_2ScanOfVeryMany(t *testing.T) {
	const n = 20000
	var b []byte
	for k := range n {
		b = append(b, framed([]byte{byte(k), byte(k >> 8)})...)
	}
	payloads, size := frame.Scan(b)
	if len(payloads) != n || size != len(b) {
		t.Fatalf("Scan of %d frames = %d payloads, %d", n, len(payloads), size)
	}
	for k, payload := range payloads {
		if !bytes.Equal(payload, []byte{byte(k), byte(k >> 8)}) {
			t.Fatalf("payload %d = %x", k, payload)
		}
	}
}

func TestP6_2ScanIsNewMemory(t *testing.T) {
	want := [][]byte{[]byte("a"), []byte("bc"), filled(100, 0), []byte("a"), filled(most, 1)}
	var all []byte
	for _, payload := range want {
		all = append(all, framed(payload)...)
	}
	b, untouched := withSpare(all)
	first, _ := frame.Scan(b)
	second, _ := frame.Scan(b)
	if !untouched() {
		t.Error("Scan changed its argument")
	}
	for k := range first {
		spoil(first[k])
		if !untouched() || !equalLists(second, want) || !equalLists(first[k+1:], want[k+1:]) {
			t.Errorf("payload %d shares memory", k)
		}
	}
	clear(first[:cap(first)])
	spoil(b)
	if !equalLists(second, want) {
		t.Error("the payloads follow the argument or the list of another call")
	}
}

// Payloads are spoilt from the last to the first as well: a spare capacity reaches only to what follows.
func TestP6_2ScansPayloadsAreApart(t *testing.T) {
	want := [][]byte{[]byte("a"), []byte("bc"), filled(100, 0)}
	var b []byte
	for _, payload := range want {
		b = append(b, framed(payload)...)
	}
	payloads, _ := frame.Scan(b)
	for k := len(payloads) - 1; k >= 0; k-- {
		spoil(payloads[k])
		if !equalLists(payloads[:k], want[:k]) {
			t.Errorf("payload %d shares memory with one before it", k)
		}
	}
}

func TestP6_3EveryPayloadIsReadBack(t *testing.T) {
	for n := 1; n <= most; n++ {
		payload := filled(n, n)
		b, err := frame.Put(nil, payload)
		if err != api.OK {
			t.Fatalf("Put of %d bytes: %d", n, err)
		}
		checkGet(t, b, payload, len(b), api.OK)
		checkGet(t, append(b, 0), payload, len(b), api.OK)
	}
}

func TestP6_3WhateverFollows(t *testing.T) {
	for _, payload := range somePayloads() {
		b, _ := frame.Put(nil, payload)
		for _, after := range append(behind(), bytes.Repeat([]byte{255}, 5000), b, b[:len(b)-1], b[1:]) {
			checkGet(t, slices.Concat(b, after), payload, len(b), api.OK)
		}
		for x := range 256 {
			checkGet(t, append(slices.Clone(b), byte(x)), payload, len(b), api.OK)
		}
	}
}

func TestP6_3BytesBeforeAndBehind(t *testing.T) {
	for _, before := range behind() {
		b, _ := frame.Put(before, []byte("abc"))
		for _, after := range behind() {
			checkGet(t, slices.Concat(b, after)[len(before):], []byte("abc"), 11, api.OK)
		}
	}
}

func TestP6_3AllOfARow(t *testing.T) {
	var b []byte
	var want [][]byte
	for k, payload := range somePayloads() {
		var err api.Errno
		if b, err = frame.Put(b, payload); err != api.OK {
			t.Fatalf("Put %d: %d", k, err)
		}
		want = append(want, payload)
		checkScan(t, b, want, len(b))
		checkScan(t, append(slices.Clone(b), "something else"...), want, len(b))
		checkGet(t, b, want[0], frame.Size(len(want[0])), api.OK)
	}
}

// row is three frames, and where each ends.
func row() (b []byte, payloads [][]byte, ends []int) {
	payloads = [][]byte{[]byte("ab"), filled(20, 6), []byte("c")}
	for _, payload := range payloads {
		b, _ = frame.Put(b, payload)
		ends = append(ends, len(b))
	}
	return b, payloads, ends
}

// wholeAt is how many of the frames end at or before a place, and where they end.
func wholeAt(ends []int, place int) (n, size int) {
	for _, end := range ends {
		if end <= place {
			n, size = n+1, end
		}
	}
	return n, size
}

func TestP6_4OneByteChanged(t *testing.T) {
	b, payloads, ends := row()
	for k := range b {
		for change := 1; change < 256; change++ {
			bad := slices.Clone(b)
			bad[k] ^= byte(change)
			n, size := wholeAt(ends, k)
			checkScan(t, bad, payloads[:n], size)
			if _, _, err := frame.Get(bad[size:]); err != api.ErrForm && err != api.ErrSum {
				t.Errorf("Get of the frame with byte %d changed by %d: %d", k, change, err)
			}
		}
	}
}

// Each byte of the shortest and of the longest frame, those of the length among them.
func TestP6_4OneByteOfAnySizeChanged(t *testing.T) {
	for _, payload := range [][]byte{{0}, {255}, filled(255, 0), filled(256, 0), filled(257, 0), filled(most, 0)} {
		good, _ := frame.Put(nil, payload)
		bad := slices.Concat(good, filled(5000, 1))
		for k := range good {
			want := api.ErrSum
			if k < 4 {
				want = api.ErrForm
			}
			for _, change := range []byte{1, 128, 255} {
				bad[k] ^= change
				if got, size, err := frame.Get(bad); len(got) != 0 || size != 0 || err != want {
					t.Errorf("Get of %d bytes, byte %d changed by %d, = %.20x, %d, %d", len(payload), k, change, got, size, err)
				}
				bad[k] ^= change
			}
		}
	}
}

func TestP6_4Truncated(t *testing.T) {
	b, payloads, ends := row()
	for k := range len(b) + 1 {
		n, size := wholeAt(ends, k)
		checkScan(t, b[:k], payloads[:n], size)
		checkScan(t, slices.Clip(b[:k]), payloads[:n], size)
		if k < len(b) {
			checkGet(t, b[size:k], nil, 0, api.ErrShort)
		}
	}
}

// What stands behind the place of the cut is not taken for the missing rest.
func TestP6_4TruncatedWithSomethingElseBehind(t *testing.T) {
	b, payloads, ends := row()
	for k := range b {
		n, size := wholeAt(ends, k)
		if k == size { // between two frames nothing is cut
			continue
		}
		for _, after := range [][]byte{{0}, make([]byte, 100), bytes.Repeat([]byte{255}, 100), b, []byte("something else that is long enough")} {
			checkScan(t, slices.Concat(b[:k], after), payloads[:n], size)
		}
	}
}

func TestP6_4AnySizeTruncated(t *testing.T) {
	for _, n := range []int{1, 2, 255, 256, most} {
		b, _ := frame.Put(nil, filled(n, 0))
		for k := range b {
			checkNoFrame(t, b[:k], api.ErrShort)
		}
	}
}
