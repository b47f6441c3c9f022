package wire

import "althing/api"

// The first bytes.
const (
	commandMark = 1
	recordMark  = 2
	messageMark = 3
)

// bytesOf is the bytes of a valid value.
func bytesOf(v any) []byte {
	switch x := v.(type) {
	case api.Command:
		return putCommand(nil, x)
	case api.Record:
		return putRecord(nil, x)
	case api.Message:
		return putMessage(nil, x)
	}
	return nil
}

func putMessage(b []byte, m api.Message) []byte {
	b = append(b, messageMark)
	b = putNumbers(b, m.Kind, m.From, m.To)
	b = putNumbers(b, m.Ballot.Number, m.Ballot.Replica)
	return putRecord(b, m.R)
}

func putRecord(b []byte, r api.Record) []byte {
	b = append(b, recordMark)
	b = putNumbers(b, r.Inst.Replica, r.Inst.Slot, r.Status)
	b = putNumbers(b, r.Promise.Number, r.Promise.Replica)
	b = putNumbers(b, r.Ballot.Number, r.Ballot.Replica)
	b = putNumbers(b, r.Seq)
	b = putNumbers(b, r.Deps[:]...)
	b = putBoolean(b, r.Kept)
	return putCommand(b, r.Cmd)
}

func putCommand(b []byte, c api.Command) []byte {
	b = append(b, commandMark)
	b = putNumbers(b, c.Kind, c.Txn.Client, c.Txn.Number)
	b = putNumbers(b, c.At.Time, c.At.Client, c.Shards)
	b = putNumbers(b, len(c.Reads))
	for _, r := range c.Reads {
		b = putText(b, r.Key)
		b = putNumbers(b, r.Version.Time, r.Version.Client)
	}
	b = putNumbers(b, len(c.Writes))
	for _, w := range c.Writes {
		b = putText(b, w.Key)
		b = putText(b, w.Value)
	}
	return putBoolean(b, c.Commit)
}

// putNumbers puts numbers in groups of 7 bits, the lowest first; all but the last group of each are marked.
func putNumbers(b []byte, numbers ...int) []byte {
	for _, n := range numbers {
		for n >= 1<<7 {
			b = append(b, 1<<7|byte(n))
			n >>= 7
		}
		b = append(b, byte(n))
	}
	return b
}

func putText(b []byte, s string) []byte {
	return append(putNumbers(b, len(s)), s...)
}

func putBoolean(b []byte, is bool) []byte {
	if is {
		return append(b, 1)
	}
	return append(b, 0)
}
