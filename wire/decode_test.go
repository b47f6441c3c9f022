package wire_test

import (
	"bytes"
	"slices"
	"testing"

	"althing/api"
	"althing/wire"
)

func checkDecode(t *testing.T, b []byte, want any, wantErr api.Errno) {
	t.Helper()
	if v, err := wire.Decode(b); !equal(v, want) || err != wantErr {
		t.Errorf("Decode(%v) = %+v, %d, want %+v, %d", b, v, err, want, wantErr)
	}
}

// samples are values of few bytes, and of each kind of part.
func samples() []any {
	return []any{api.Command{}, some(), record(), blank(), message()}
}

func TestP7_2DecodeByHand(t *testing.T) {
	checkDecode(t, []byte{1, 0, 0, 0, 0, 0, 0, 0, 0, 0}, api.Command{}, api.OK)
	c := []byte{1, 1, 1, 200, 1, 5, 1, 3, 2, 1, 'a', 4, 2, 1, 'c', 0, 0, 2, 1, 'b', 2, 'x', 'y', 1, 'c', 0, 0}
	checkDecode(t, c, some(), api.OK)
	r := append([]byte{2, 1, 172, 2, 1, 9, 4, 8, 5, 7, 10, 11, 12, 13, 14, 15, 16, 1}, c...)
	checkDecode(t, r, record(), api.OK)
	checkDecode(t, append([]byte{3, 8, 2, 3, 144, 3, 6}, r...), message(), api.OK)
	// A Decide that commits, and a Seq of 2^40.
	c[1], c[len(c)-1] = 2, 1
	checkDecode(t, c, someWith(func(c *api.Command) { c.Kind, c.Commit = api.Decide, true }), api.OK)
	long := []byte{2, 1, 172, 2, 1, 9, 4, 8, 5, 128, 128, 128, 128, 128, 32, 10, 11, 12, 13, 14, 15, 16, 1, 1, 0, 0, 0, 0, 0, 0, 0, 0, 0}
	checkDecode(t, long, recordWith(func(r *api.Record) { r.Seq, r.Cmd = top, api.Command{} }), api.OK)
}

func TestP7_2Decode(t *testing.T) {
	for _, v := range validValues() {
		checkDecode(t, raw(v), v, api.OK)
	}
}

func TestP7_2DecodeNothing(t *testing.T) {
	checkDecode(t, nil, nil, api.ErrShort)
	checkDecode(t, []byte{}, nil, api.ErrShort)
	checkDecode(t, raw(some())[:0], nil, api.ErrShort)
}

// What is missing may stand in the spare capacity, where it does not count.
func TestP7_2DecodeWhatIsCutOff(t *testing.T) {
	for _, v := range validValues() {
		b := raw(v)
		for n := range b {
			checkDecode(t, b[:n], nil, api.ErrShort)
			checkDecode(t, slices.Clip(b[:n]), nil, api.ErrShort)
		}
	}
}

func TestP7_2DecodeEachFirstByte(t *testing.T) {
	for x := range 256 {
		want := api.ErrForm
		if x >= 1 && x <= 3 {
			want = api.ErrShort
		}
		checkDecode(t, []byte{byte(x)}, nil, want)
		if x < 1 || x > 3 {
			for _, v := range samples() {
				checkDecode(t, replacedFirst(raw(v), byte(x)), nil, api.ErrForm)
			}
		}
	}
	// A mark of another type: what follows is read as that type says.
	checkDecode(t, replacedFirst(raw(api.Command{}), 2), nil, api.ErrShort)
	checkDecode(t, replacedFirst(raw(api.Command{}), 3), nil, api.ErrForm)
}

func replacedFirst(b []byte, x byte) []byte {
	return append([]byte{x}, b[1:]...)
}

// The command of a record begins with 1, and the record of a message with 2.
func TestP7_2DecodeEachFirstByteWithin(t *testing.T) {
	for _, v := range []any{record(), blank(), message()} {
		l := partsOf(v)
		for k, p := range l {
			for x := 0; x < 256 && p.what == isMark && k > 0; x++ {
				if byte(x) == p.b[0] {
					continue
				}
				bad := replaced(l, k, []byte{byte(x)})
				checkDecode(t, joined(bad), nil, api.ErrForm)
				checkDecode(t, joined(bad[:k+1]), nil, api.ErrForm)
			}
		}
	}
}

// At the place of each number stands each of some numbers, and what is read is what they say, or is not valid.
func TestP7_2DecodeEachNumber(t *testing.T) {
	for _, v := range samples() {
		l := partsOf(v)
		for k, p := range l {
			if p.what != isNumber {
				continue
			}
			for _, n := range edges() {
				got, err := wire.Decode(joined(replaced(l, k, numberBytes(n))))
				if err == api.OK && !bytes.Equal(raw(got), joined(replaced(l, k, numberBytes(n)))) {
					t.Errorf("part %d of %v: %d is read as %v", k, v, n, got)
				}
				if err != api.OK && err != api.ErrArg || (got == nil) != (err != api.OK) {
					t.Errorf("part %d of %v: %d gives %v, %d", k, v, n, got, err)
				}
			}
		}
	}
}

// A fault is told whatever follows: nothing, other bytes, or the parts that belong there.
func TestP7_2DecodeEachFault(t *testing.T) {
	for _, v := range samples() {
		l := partsOf(v)
		for k, p := range l {
			for _, f := range faultsOf(p) {
				before := joined(l[:k])
				bad := slices.Concat(before, f.b)
				checkDecode(t, bad, nil, f.e)
				checkDecode(t, slices.Concat(bad, []byte{0}), nil, f.e)
				checkDecode(t, slices.Concat(bad, []byte{255, 255, 255, 255, 255, 255, 255, 255, 255}), nil, f.e)
				checkDecode(t, slices.Concat(bad, joined(l[k+1:])), nil, f.e)
				checkDecode(t, slices.Concat(bad, joined(l[k+1:]), []byte{0}), nil, f.e)
			}
		}
	}
}

// Of a number with a fault, the bytes before its last one only say that there are more.
func TestP7_2DecodeFaultsThatAreCutOff(t *testing.T) {
	for _, f := range numberFaults() {
		for n := range min(len(f.b), 6) {
			checkDecode(t, append([]byte{1}, f.b[:n]...), nil, api.ErrShort)
			checkDecode(t, append([]byte{2, 1}, f.b[:n]...), nil, api.ErrShort)
		}
	}
}

// As soon as a sixth byte is 128 or more the number is out of range, and a sixth byte below is its last one.
func TestP7_2DecodeEachSixthByte(t *testing.T) {
	for x := range 256 {
		for _, first := range []byte{128, 129, 255} {
			b := []byte{1, first, 128, 128, 128, 128, byte(x)}
			want := api.ErrShort // a number, and then nothing
			if x == 0 {
				want = api.ErrForm
			} else if x > 32 || x == 32 && first != 128 {
				want = api.ErrRange
			}
			checkDecode(t, b, nil, want)
		}
	}
}

// Behind 0 to 5 bytes that say that there are more, the last byte is 0, 1 or 127, or is missing.
func TestP7_2DecodeEachLastByte(t *testing.T) {
	for n := range 6 {
		for _, filler := range []byte{128, 255} {
			b := append([]byte{1}, bytes.Repeat([]byte{filler}, n)...)
			checkDecode(t, b, nil, api.ErrShort)
			if n > 0 {
				checkDecode(t, append(slices.Clone(b), 0), nil, api.ErrForm)
			} else {
				checkDecode(t, append(slices.Clone(b), 0), nil, api.ErrShort)
			}
			checkDecode(t, append(slices.Clone(b), 1), nil, api.ErrShort)
			if n < 5 {
				checkDecode(t, append(slices.Clone(b), 127), nil, api.ErrShort)
			} else {
				checkDecode(t, append(slices.Clone(b), 127), nil, api.ErrRange)
			}
		}
	}
}

func TestP7_2DecodeEachBoolean(t *testing.T) {
	for _, v := range samples() {
		l := partsOf(v)
		for k, p := range l {
			for x := 2; x < 256 && p.what == isBoolean; x++ {
				bad := replaced(l, k, []byte{byte(x)})
				checkDecode(t, joined(bad), nil, api.ErrForm)
				checkDecode(t, joined(bad[:k+1]), nil, api.ErrForm)
			}
		}
	}
	kept := partsOf(record())
	checkDecode(t, joined(replaced(kept, 16, []byte{0})), recordWith(func(r *api.Record) { r.Kept = false }), api.OK)
}

// Strings of 8 bytes and of 9, and as many bytes of them as there are.
func TestP7_2DecodeEachLength(t *testing.T) {
	const letters = "abcdefghijklmnop"
	head := []byte{1, 1, 1, 200, 1, 5, 1, 3}
	for n := range 16 {
		key := append([]byte{byte(n)}, letters[:n]...)
		read := slices.Concat(head, []byte{1}, key, []byte{4, 2, 0, 0})
		write := slices.Concat(head, []byte{0, 1}, key, []byte{1, 'v', 0})
		value := slices.Concat(head, []byte{0, 1, 1, 'b'}, key, []byte{0})
		asRead := someWith(func(c *api.Command) {
			c.Reads, c.Writes = []api.Read{{Key: letters[:n], Version: api.Stamp{Time: 4, Client: 2}}}, nil
		})
		asWrite := someWith(func(c *api.Command) { c.Reads, c.Writes = nil, []api.Write{{Key: letters[:n], Value: "v"}} })
		asValue := someWith(func(c *api.Command) { c.Reads, c.Writes = nil, []api.Write{{Key: "b", Value: letters[:n]}} })
		switch {
		case n > 8:
			checkDecode(t, read, nil, api.ErrRange)
			checkDecode(t, write, nil, api.ErrRange)
			checkDecode(t, value, nil, api.ErrRange)
		case n == 0: // which is no key
			checkDecode(t, read, nil, api.ErrArg)
			checkDecode(t, write, nil, api.ErrArg)
			checkDecode(t, value, asValue, api.OK)
		default:
			checkDecode(t, read, asRead, api.OK)
			checkDecode(t, write, asWrite, api.OK)
			checkDecode(t, value, asValue, api.OK)
		}
	}
}

// 8 reads and writes, and 9: the number is out of range whether they are all there or none is.
func TestP7_2DecodeEachNumberOfItems(t *testing.T) {
	for n := 1; n <= 10; n++ {
		c := someWith(func(c *api.Command) { c.Reads, c.Writes = reads(letters(n)...), nil })
		d := someWith(func(c *api.Command) { c.Reads, c.Writes = nil, writes(letters(n)...) })
		for _, x := range []api.Command{c, d} {
			r := recordWith(func(r *api.Record) { r.Cmd = x })
			m := messageWith(func(m *api.Message) { m.R = r })
			for _, v := range []any{x, r, m} {
				if n <= 8 {
					checkDecode(t, raw(v), v, api.OK)
				} else {
					checkDecode(t, raw(v), nil, api.ErrRange)
				}
			}
		}
	}
	head := []byte{1, 1, 1, 200, 1, 5, 1, 3}
	checkDecode(t, slices.Concat(head, []byte{8}), nil, api.ErrShort)
	checkDecode(t, slices.Concat(head, []byte{9}), nil, api.ErrRange)
	checkDecode(t, slices.Concat(head, []byte{0, 8}), nil, api.ErrShort)
	checkDecode(t, slices.Concat(head, []byte{0, 9}), nil, api.ErrRange)
}

// Bytes behind go before what is not valid.
func TestP7_2DecodeBytesBehind(t *testing.T) {
	for _, v := range append(validValues(), wrongValues()...) {
		for _, behind := range [][]byte{{0}, {1}, {255}, {0, 0}, {128}, raw(api.Command{})} {
			checkDecode(t, slices.Concat(raw(v), behind), nil, api.ErrMore)
		}
	}
	for _, v := range samples() {
		for x := range 256 {
			checkDecode(t, append(raw(v), byte(x)), nil, api.ErrMore)
		}
		checkDecode(t, append(raw(v), make([]byte, 1<<16)...), nil, api.ErrMore)
		checkDecode(t, append(raw(v), raw(v)...), nil, api.ErrMore)
	}
}

func TestP7_2DecodeWhatIsNotValid(t *testing.T) {
	for _, v := range wrongValues() {
		checkDecode(t, raw(v), nil, api.ErrArg)
	}
}

// Each error of a part goes before what is not valid, also where that stands ahead of it.
func TestP7_2DecodeFaultsOfWhatIsNotValid(t *testing.T) {
	l := wrongCommands()
	for _, v := range []any{l[0], l[9], l[10], l[len(l)-1], wrongRecords()[0], wrongRecords()[2], wrongMessages()[0], wrongMessages()[4]} {
		parts := partsOf(v)
		for k, p := range parts {
			for _, f := range faultsOf(p) {
				checkDecode(t, joined(replaced(parts, k, f.b)), nil, f.e)
			}
		}
		b := raw(v)
		for n := range b {
			checkDecode(t, b[:n], nil, api.ErrShort)
		}
	}
}

// Of two faults the first one is told, and so it is where bytes are cut off or stand behind.
func TestP7_2DecodeTheFirstFault(t *testing.T) {
	for _, v := range samples() {
		l := partsOf(v)
		for k, p := range l {
			for _, f := range faultsOf(p) {
				bad := replaced(l, k, f.b)
				for later := k + 1; later < len(l); later++ {
					checkDecode(t, joined(bad[:later]), nil, f.e)
					for _, g := range someOf(faultsOf(l[later]), k+later) {
						checkDecode(t, joined(replaced(bad, later, g.b)), nil, f.e)
						checkDecode(t, append(joined(replaced(bad, later, g.b)), 0), nil, f.e)
					}
				}
			}
		}
	}
}

// someOf are two of some faults, others for other numbers.
func someOf(l []fault, n int) []fault {
	if len(l) < 2 {
		return l
	}
	return []fault{l[n%len(l)], l[(n+len(l)/2)%len(l)]}
}

// A part that is cut off is told ahead of what would have been wrong behind it, and behind what is wrong ahead of it.
func TestP7_2DecodeCutOffOrFault(t *testing.T) {
	l := partsOf(message())
	for k, p := range l {
		for _, f := range faultsOf(p) {
			bad := joined(replaced(l, k, f.b))
			first := len(joined(l[:k]))
			for n := range bad {
				want := api.ErrShort
				if n >= first+min(len(f.b), 6) {
					want = f.e
				}
				checkDecode(t, bad[:n], nil, want)
			}
		}
	}
}

func TestP7_2DecodeIsNewMemory(t *testing.T) {
	for _, v := range validValues() {
		b, untouched := bytesWithSpare(raw(v))
		first, _ := wire.Decode(b)
		second, _ := wire.Decode(b)
		if !untouched() {
			t.Errorf("Decode(%v) changed its argument", raw(v))
		}
		spoil(first)
		if !untouched() || !equal(second, v) {
			t.Errorf("the result of Decode(%v) shares memory", raw(v))
		}
		spoilBytes(b)
		if !equal(second, v) {
			t.Errorf("the result of Decode(%v) follows its argument: %v", raw(v), second)
		}
	}
}

func TestP7_2DecodeOfErrorsLeavesItsArgument(t *testing.T) {
	for _, v := range samples() {
		l := partsOf(v)
		for k, p := range l {
			for _, f := range faultsOf(p) {
				b, untouched := bytesWithSpare(joined(replaced(l, k, f.b)))
				wire.Decode(b)
				wire.Decode(b[:len(b)-1])
				if !untouched() {
					t.Errorf("Decode(%v) changed its argument", b)
				}
			}
		}
	}
}
