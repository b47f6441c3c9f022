package index_test

import (
	"math"
	"slices"
	"testing"

	"althing/api"
	"althing/index"
)

const (
	top  = 1 << 40 // the greatest number
	last = 1 << 20 // the greatest slot
)

func inst(replica, slot int) api.Instance {
	return api.Instance{Replica: replica, Slot: slot}
}

// notReplicas are numbers of replicas that no shard has.
func notReplicas() []int {
	return []int{math.MinInt, -1 << 32, -7, -1, 7, 8, 1 << 32, 1<<32 + 1, math.MaxInt}
}

// validate is a Validate with this name; the keys of its reads are those of r, of its writes those of w, byte by byte.
func validate(number int, r, w string) api.Command {
	c := api.Command{Kind: api.Validate, Txn: api.Txn{Client: 1, Number: number}, At: api.Stamp{Time: number + 1, Client: 1}, Shards: 1}
	for k := range len(r) {
		c.Reads = append(c.Reads, api.Read{Key: r[k : k+1], Version: api.Stamp{Time: 1}})
	}
	for k := range len(w) {
		c.Writes = append(c.Writes, api.Write{Key: w[k : k+1], Value: "v"})
	}
	return c
}

func decide(number int, r, w string) api.Command {
	c := validate(number, r, w)
	c.Kind, c.Commit = api.Decide, true
	return c
}

// record is one whose fields all have other values than those of a record with another number.
func record(number int, i api.Instance, status int, c api.Command) api.Record {
	return api.Record{
		Inst: i, Status: status, Promise: api.Ballot{Number: number + 9, Replica: 2}, Ballot: api.Ballot{Number: number + 8, Replica: 1},
		Cmd: c, Seq: number, Deps: api.Deps{number, 1, 2, 3, 4, 5, 6}, Kept: status == api.PreAccept,
	}
}

// writer is a record of a command that writes a.
func writer(i api.Instance, status, seq int) api.Record {
	return record(seq, i, status, validate(i.Slot+100*i.Replica, "", "a"))
}

// statuses are those that there are, and, below and above None, some that there are not.
func statuses() []int {
	return []int{math.MinInt, -1 << 32, -2, -1, 0, 1, 2, 3, 4, 5, 1 << 32, 1<<32 + 1, math.MaxInt}
}

// someCommands are of all kinds, and also not valid; of two of them, there is or there is not a common name, a common key, or a common key of their reads or writes alone.
func someCommands() []api.Command {
	nameless := api.Command{Kind: api.Validate}
	noop := validate(1, "a", "b")
	noop.Kind = api.Noop
	other := validate(2, "c", "a")
	other.Kind = 7
	return []api.Command{
		{}, noop, nameless,
		validate(1, "a", "b"), validate(2, "a", ""), validate(3, "", "a"), validate(4, "b", "c"), validate(5, "d", "d"), validate(6, "", ""),
		decide(1, "a", "b"), decide(1, "e", "f"), decide(7, "c", "a"), decide(8, "", "f"),
		other, validate(-1, "ba", "aa"),
	}
}

// interfere tells by hand whether two commands interfere.
func interfere(a, b api.Command) bool {
	if a.Kind == api.Noop || b.Kind == api.Noop {
		return false
	}
	common := a.Txn.Client == b.Txn.Client && a.Txn.Number == b.Txn.Number
	for _, x := range keysOf(a) {
		for _, y := range keysOf(b) {
			common = common || x == y
		}
	}
	return common
}

func keysOf(c api.Command) []string {
	var l []string
	for _, r := range c.Reads {
		l = append(l, r.Key)
	}
	for _, w := range c.Writes {
		l = append(l, w.Key)
	}
	return l
}

// known is told by looking behind each record for one of the same instance.
func known(l []api.Record) []api.Record {
	var some []api.Record
	for k, r := range l {
		isLast := true
		for _, later := range l[k+1:] {
			isLast = isLast && (later.Inst.Replica != r.Inst.Replica || later.Inst.Slot != r.Inst.Slot)
		}
		if isLast {
			some = append(some, r)
		}
	}
	return some
}

func against(l []api.Record, i api.Instance, c api.Command) []api.Record {
	var some []api.Record
	for _, r := range known(l) {
		if r.Status > 0 && (r.Inst.Replica != i.Replica || r.Inst.Slot != i.Slot) && interfere(c, r.Cmd) {
			some = append(some, r)
		}
	}
	return some
}

func attrs(l []api.Record, i api.Instance, c api.Command, seq int, d api.Deps) (int, api.Deps) {
	for _, r := range against(l, i, c) {
		if r.Seq >= top && seq < top {
			seq = top
		} else if r.Seq < top && seq < r.Seq+1 {
			seq = r.Seq + 1
		}
		if k := r.Inst.Replica; k >= 0 && k < 7 && d[k] < r.Inst.Slot {
			d[k] = r.Inst.Slot
		}
	}
	return seq, d
}

func slot(l []api.Record, replica int) int {
	greatest := 0
	for _, r := range l {
		if r.Inst.Replica == replica && r.Inst.Slot > greatest {
			greatest = r.Inst.Slot
		}
	}
	if greatest > last {
		greatest = last
	}
	return greatest + 1
}

// same tells by hand whether two lists of records are the same.
func same(a, b []api.Record) bool {
	return slices.EqualFunc(a, b, sameRecord)
}

func sameRecord(a, b api.Record) bool {
	return a.Inst == b.Inst && a.Status == b.Status && a.Promise == b.Promise && a.Ballot == b.Ballot &&
		a.Seq == b.Seq && a.Deps == b.Deps && a.Kept == b.Kept && sameCommand(a.Cmd, b.Cmd)
}

func sameCommand(a, b api.Command) bool {
	return a.Kind == b.Kind && a.Txn == b.Txn && a.At == b.At && a.Shards == b.Shards && a.Commit == b.Commit &&
		slices.Equal(a.Reads, b.Reads) && slices.Equal(a.Writes, b.Writes)
}

func checkRecords(t *testing.T, what string, got, want []api.Record) {
	t.Helper()
	if !same(got, want) {
		t.Errorf("%s = %v, want %v", what, got, want)
	}
}

func checkAttrs(t *testing.T, what string, seq int, d api.Deps, wantSeq int, wantDeps api.Deps) {
	t.Helper()
	if seq != wantSeq || d != wantDeps {
		t.Errorf("%s = %d, %v, want %d, %v", what, seq, d, wantSeq, wantDeps)
	}
}

// starts are what Attrs begins with.
func starts() []start {
	return []start{
		{0, api.Deps{}}, {1, api.Deps{1, 2, 3}}, {6, api.Deps{0, 0, 0, 0, 0, 0, 9}}, {top, api.Deps{last, last, last, last, last, last, last}},
		{-5, api.Deps{-1, -2}}, {math.MinInt, api.Deps{math.MinInt, math.MaxInt}}, {math.MaxInt, api.Deps{}},
	}
}

type start struct {
	seq  int
	deps api.Deps
}

// checkView says what of a view is not as the model has it: what each call tells of it.
func checkView(t *testing.T, l []api.Record, at []api.Instance, commands []api.Command) {
	t.Helper()
	checkRecords(t, "Known", index.Known(l), known(l))
	for _, i := range at {
		for _, c := range commands {
			checkRecords(t, "Against", index.Against(l, i, c), against(l, i, c))
			for _, s := range starts() {
				seq, d := index.Attrs(l, i, c, s.seq, s.deps)
				wantSeq, wantDeps := attrs(l, i, c, s.seq, s.deps)
				checkAttrs(t, "Attrs", seq, d, wantSeq, wantDeps)
			}
		}
	}
	for _, k := range append(notReplicas(), 0, 1, 2, 3, 4, 5, 6) {
		if got, want := index.Slot(l, k), slot(l, k); got != want {
			t.Errorf("Slot(%v, %d) = %d, want %d", l, k, got, want)
		}
	}
}
