package wire_test

import (
	"bytes"
	"slices"
	"testing"

	"althing/api"
	"althing/wire"
)

func TestP7_3DecodeReturnsWhatWasEncoded(t *testing.T) {
	for _, v := range validValues() {
		b, err := wire.Encode(v)
		if err != api.OK {
			t.Errorf("Encode(%v) = %d", v, err)
		}
		checkDecode(t, b, v, api.OK)
	}
}

// Two values with the same bytes are the same.
func TestP7_3OtherValuesHaveOtherBytes(t *testing.T) {
	seen := map[string]any{}
	for _, v := range validValues() {
		b, _ := wire.Encode(v)
		if first, again := seen[string(b)]; again && !equal(first, v) {
			t.Errorf("%v and %v have the same bytes", first, v)
		}
		seen[string(b)] = v
	}
}

// checkAgain tells whether bytes that are decoded are encoded to the same ones.
func checkAgain(t *testing.T, b []byte) {
	t.Helper()
	v, err := wire.Decode(b)
	if (v == nil) != (err != api.OK) {
		t.Errorf("Decode(%v) = %v, %d", b, v, err)
	}
	if err != api.OK {
		return
	}
	if again, err := wire.Encode(v); !bytes.Equal(again, b) || err != api.OK {
		t.Errorf("Decode(%v) = %v, which is encoded to %v, %d", b, v, again, err)
	}
}

func TestP7_3EncodingWhatWasDecoded(t *testing.T) {
	for _, v := range append(validValues(), wrongValues()...) {
		checkAgain(t, raw(v))
	}
}

// Each byte of some encodings is replaced by each other one, removed, and doubled.
func TestP7_3EncodingWhatWasDecodedOfAlmostTheSame(t *testing.T) {
	for _, v := range samples() {
		b := raw(v)
		for k := range b {
			for x := range 256 {
				checkAgain(t, slices.Concat(b[:k], []byte{byte(x)}, b[k+1:]))
			}
			checkAgain(t, slices.Concat(b[:k], b[k+1:]))
			checkAgain(t, slices.Concat(b[:k+1], b[k:]))
		}
	}
}

// Several bytes of some encodings are replaced at once, by ones that are often read as something.
func TestP7_3EncodingWhatWasDecodedOfOthers(t *testing.T) {
	state := uint32(1)
	next := func(n int) int {
		state = state*1664525 + 1013904223
		return int(state>>16) % n
	}
	decoded := 0
	for range 30000 {
		b := raw(samples()[next(len(samples()))])
		for range 1 + next(3) {
			b[next(len(b))] = []byte{0, 1, 2, 3, 4, 7, 127, 128, 'a'}[next(9)]
		}
		checkAgain(t, b)
		if _, err := wire.Decode(b); err == api.OK {
			decoded++
		}
	}
	if decoded < 1000 {
		t.Errorf("only %d of the bytes are decoded", decoded)
	}
}
