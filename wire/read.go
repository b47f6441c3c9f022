package wire

import "althing/api"

// mostGroups is how many groups of 7 bits a number may have: 2^40 has so many.
const mostGroups = 6

// reader reads bytes part by part. Only its first error counts: what is read after that means nothing.
type reader struct {
	rest []byte
	err  api.Errno
}

// value reads whatever the first byte says.
func (r *reader) value() any {
	switch r.one() {
	case commandMark:
		return r.command()
	case recordMark:
		return r.record()
	case messageMark:
		return r.message()
	}
	r.fail(api.ErrForm)
	return nil
}

// message reads what stands behind a message's first byte.
func (r *reader) message() api.Message {
	var m api.Message
	m.Kind = r.number()
	m.From = r.number()
	m.To = r.number()
	m.Ballot = r.ballot()
	r.mark(recordMark)
	m.R = r.record()
	return m
}

// record reads what stands behind a record's first byte.
func (r *reader) record() api.Record {
	var x api.Record
	x.Inst.Replica = r.number()
	x.Inst.Slot = r.number()
	x.Status = r.number()
	x.Promise = r.ballot()
	x.Ballot = r.ballot()
	x.Seq = r.number()
	for k := range x.Deps {
		x.Deps[k] = r.number()
	}
	x.Kept = r.boolean()
	r.mark(commandMark)
	x.Cmd = r.command()
	return x
}

// command reads what stands behind a command's first byte.
func (r *reader) command() api.Command {
	var c api.Command
	c.Kind = r.number()
	c.Txn.Client = r.number()
	c.Txn.Number = r.number()
	c.At = r.stamp()
	c.Shards = r.number()
	r.each(func() {
		key := r.text(api.MaxKey)
		c.Reads = append(c.Reads, api.Read{Key: key, Version: r.stamp()})
	})
	r.each(func() {
		key := r.text(api.MaxKey)
		c.Writes = append(c.Writes, api.Write{Key: key, Value: r.text(api.MaxValue)})
	})
	c.Commit = r.boolean()
	return c
}

func (r *reader) ballot() api.Ballot {
	number := r.number()
	return api.Ballot{Number: number, Replica: r.number()}
}

func (r *reader) stamp() api.Stamp {
	time := r.number()
	return api.Stamp{Time: time, Client: r.number()}
}

// each reads how many items there are, and then each of them.
func (r *reader) each(item func()) {
	for range r.count(api.MaxKeys) {
		item()
	}
}

func (r *reader) text(most int) string {
	n := r.count(most)
	if n > len(r.rest) {
		r.fail(api.ErrShort)
		return ""
	}
	s := string(r.rest[:n])
	r.rest = r.rest[n:]
	return s
}

// count reads how many there are of what has a limit.
func (r *reader) count(most int) int {
	return r.upTo(r.number(), most)
}

func (r *reader) number() int {
	n := 0
	for k := range mostGroups {
		x := r.one()
		n |= int(x&127) << (7 * k)
		if x < 128 {
			if x == 0 && k > 0 {
				r.fail(api.ErrForm)
			}
			return r.upTo(n, api.MaxNumber)
		}
	}
	r.fail(api.ErrRange)
	return 0
}

// upTo is n, or an error where it is too great.
func (r *reader) upTo(n, most int) int {
	if n > most {
		r.fail(api.ErrRange)
		return 0
	}
	return n
}

func (r *reader) boolean() bool {
	x := r.one()
	if x > 1 {
		r.fail(api.ErrForm)
	}
	return x == 1
}

// mark reads the first byte of something that must stand here.
func (r *reader) mark(want byte) {
	if r.one() != want {
		r.fail(api.ErrForm)
	}
}

func (r *reader) one() byte {
	if len(r.rest) == 0 {
		r.fail(api.ErrShort)
		return 0
	}
	x := r.rest[0]
	r.rest = r.rest[1:]
	return x
}

func (r *reader) fail(err api.Errno) {
	if r.err == api.OK {
		r.err = err
	}
}
