package wire_test

import (
	"slices"

	"althing/api"
)

// What a part of an encoding is.
const (
	isMark = iota
	isNumber
	isCount // a number that is at most 8
	isText
	isBoolean
)

// part is a part of an encoding.
type part struct {
	what int
	b    []byte
}

// numberBytes is a number in groups of 7 bits, by division.
func numberBytes(n int) []byte {
	var b []byte
	for n/128 != 0 {
		b = append(b, byte(n%128+128))
		n /= 128
	}
	return append(b, byte(n))
}

func numberParts(numbers ...int) []part {
	var l []part
	for _, n := range numbers {
		l = append(l, part{isNumber, numberBytes(n)})
	}
	return l
}

func countPart(n int) part {
	return part{isCount, numberBytes(n)}
}

func textParts(s string) []part {
	return []part{countPart(len(s)), {isText, []byte(s)}}
}

func booleanPart(is bool) part {
	if is {
		return part{isBoolean, []byte{1}}
	}
	return part{isBoolean, []byte{0}}
}

// partsOf are the parts of the encoding of a value, valid or not, as the document words it. No number of it may be negative.
func partsOf(v any) []part {
	switch x := v.(type) {
	case api.Command:
		l := []part{{isMark, []byte{1}}}
		l = append(l, numberParts(x.Kind, x.Txn.Client, x.Txn.Number, x.At.Time, x.At.Client, x.Shards)...)
		l = append(l, countPart(len(x.Reads)))
		for _, r := range x.Reads {
			l = append(l, textParts(r.Key)...)
			l = append(l, numberParts(r.Version.Time, r.Version.Client)...)
		}
		l = append(l, countPart(len(x.Writes)))
		for _, w := range x.Writes {
			l = append(l, textParts(w.Key)...)
			l = append(l, textParts(w.Value)...)
		}
		return append(l, booleanPart(x.Commit))
	case api.Record:
		l := []part{{isMark, []byte{2}}}
		l = append(l, numberParts(x.Inst.Replica, x.Inst.Slot, x.Status, x.Promise.Number, x.Promise.Replica, x.Ballot.Number, x.Ballot.Replica, x.Seq)...)
		l = append(l, numberParts(x.Deps[0], x.Deps[1], x.Deps[2], x.Deps[3], x.Deps[4], x.Deps[5], x.Deps[6])...)
		l = append(l, booleanPart(x.Kept))
		return append(l, partsOf(x.Cmd)...)
	case api.Message:
		l := []part{{isMark, []byte{3}}}
		l = append(l, numberParts(x.Kind, x.From, x.To, x.Ballot.Number, x.Ballot.Replica)...)
		return append(l, partsOf(x.R)...)
	}
	return nil
}

// joined is all parts, one behind the other.
func joined(l []part) []byte {
	var b []byte
	for _, p := range l {
		b = append(b, p.b...)
	}
	return b
}

// raw is the encoding of a value, valid or not.
func raw(v any) []byte {
	return joined(partsOf(v))
}

// replaced is all parts, one of them replaced.
func replaced(l []part, at int, b []byte) []part {
	l = slices.Clone(l)
	l[at].b = b
	return l
}

// fault is what may stand instead of a part, and the error that this is.
type fault struct {
	b []byte
	e api.Errno
}

// numberFaults are no numbers, whatever follows.
func numberFaults() []fault {
	return []fault{
		{[]byte{128, 0}, api.ErrForm},
		{[]byte{129, 0}, api.ErrForm},
		{[]byte{255, 0}, api.ErrForm},
		{[]byte{137, 0}, api.ErrForm},
		{[]byte{129, 128, 0}, api.ErrForm},
		{[]byte{255, 255, 255, 0}, api.ErrForm},
		{[]byte{129, 128, 128, 128, 0}, api.ErrForm},
		{[]byte{128, 128, 128, 128, 128, 0}, api.ErrForm},
		{[]byte{255, 255, 255, 255, 255, 0}, api.ErrForm},
		{[]byte{129, 128, 128, 128, 128, 32}, api.ErrRange}, // 2^40 + 1
		{[]byte{128, 129, 128, 128, 128, 32}, api.ErrRange}, // 2^40 + 128
		{[]byte{128, 128, 128, 128, 129, 32}, api.ErrRange},
		{[]byte{255, 255, 255, 255, 255, 32}, api.ErrRange},
		{[]byte{128, 128, 128, 128, 128, 33}, api.ErrRange},
		{[]byte{128, 128, 128, 128, 128, 64}, api.ErrRange},
		{[]byte{255, 255, 255, 255, 255, 127}, api.ErrRange},
		{[]byte{128, 128, 128, 128, 128, 128}, api.ErrRange}, // more than 6 bytes
		{[]byte{129, 128, 128, 128, 128, 128}, api.ErrRange},
		{[]byte{128, 128, 128, 128, 128, 160}, api.ErrRange},
		{[]byte{255, 255, 255, 255, 255, 255}, api.ErrRange},
		{[]byte{128, 128, 128, 128, 128, 128, 0}, api.ErrRange},
		{[]byte{129, 128, 128, 128, 128, 128, 1}, api.ErrRange},
		{[]byte{255, 255, 255, 255, 255, 255, 255, 255, 255, 1}, api.ErrRange},
	}
}

// faultsOf are faults that may stand instead of a part, whatever follows.
func faultsOf(p part) []fault {
	switch p.what {
	case isMark:
		return []fault{{[]byte{0}, api.ErrForm}, {[]byte{4}, api.ErrForm}, {[]byte{p.b[0] + 128}, api.ErrForm}, {[]byte{255}, api.ErrForm}}
	case isNumber:
		return numberFaults()
	case isCount:
		return append(numberFaults(), []fault{
			{[]byte{9}, api.ErrRange},
			{[]byte{10}, api.ErrRange},
			{[]byte{127}, api.ErrRange},
			{[]byte{128, 1}, api.ErrRange},
			{[]byte{136, 1}, api.ErrRange}, // 8 in its lowest group
			{[]byte{128, 2}, api.ErrRange}, // 256
			{[]byte{128, 128, 128, 128, 16}, api.ErrRange},
			{[]byte{128, 128, 128, 128, 128, 32}, api.ErrRange}, // 2^40
		}...)
	case isBoolean:
		return []fault{{[]byte{2}, api.ErrForm}, {[]byte{3}, api.ErrForm}, {[]byte{128}, api.ErrForm}, {[]byte{129}, api.ErrForm}, {[]byte{255}, api.ErrForm}}
	}
	return nil
}
