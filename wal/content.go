package wal

import (
	"bytes"
	"maps"
	"slices"

	"althing/api"
	"althing/frame"
	"althing/stamp"
	"althing/wire"
)

// content is what was read of a disk. It spares reading all of it anew for each call, and has nothing that the disk does not have.
type content struct {
	frames  []byte // those of the records, from the beginning on
	rest    int    // how many bytes the disk has behind them
	records []api.Record
	ends    []int // how many bytes there are up to the end of each record's frame
	current map[api.Instance]api.Record
}

// follow makes it what is read of b, of which only what is new is read, as long as what was read is still there.
func (c *content) follow(b []byte) {
	if !bytes.HasPrefix(b, c.frames) {
		c.forget()
	}
	end := len(c.frames)
	each(b[end:], func(r api.Record, size int) {
		end += size
		c.records = append(c.records, r)
		c.ends = append(c.ends, end)
		c.current[r.Inst] = r
	})
	c.frames, c.rest = b[:end], len(b)-end
}

func (c *content) forget() {
	c.frames, c.records, c.ends = nil, nil, nil
	clear(c.current)
}

// within is the records whose frames end within the first n bytes, in memory of their own.
func (c *content) within(n int) []api.Record {
	var l []api.Record
	for k, end := range c.ends {
		if end <= n {
			l = append(l, wire.MustRecord(c.records[k]))
		}
	}
	return l
}

// insts is the instances that have a record, in order.
func (c *content) insts() []api.Instance {
	return slices.SortedFunc(maps.Keys(c.current), stamp.CompareInsts)
}

// each hands over the records whose frames b begins with, up to the first frame that has none, each with the size of its frame.
func each(b []byte, collect func(r api.Record, size int)) {
	payloads, _ := frame.Scan(b)
	for _, payload := range payloads {
		v, _ := wire.Decode(payload)
		r, is := wire.Record(v)
		if !is {
			return
		}
		collect(r, frame.Size(len(payload)))
	}
}
