package accept_test

import (
	"testing"

	"althing/accept"
	"althing/api"
	"althing/wire"
)

// checkStored says where what is stored loses something: a promise, what is committed, or what makes a record valid.
func checkStored(t *testing.T, l []api.Record, m api.Message, s accept.Step) {
	t.Helper()
	k := know(l, m.R.Inst)
	if !s.New {
		checkRecord(t, "what is not stored", s.R, api.Record{})
		return
	}
	if s.R.Inst != m.R.Inst || !wire.RightRecord(s.R) {
		t.Errorf("Handle(%v, %v) stores %v", l, m, s.R)
	}
	if less(s.R.Promise, k.Promise) {
		t.Errorf("Handle(%v, %v) stores the promise %v", l, m, s.R.Promise)
	}
	if k.Status == api.Committed {
		t.Errorf("Handle(%v, %v) stores %v behind what is committed", l, m, s.R)
	}
}

func checkReply(t *testing.T, m api.Message, s accept.Step) {
	t.Helper()
	if s.Has && (!wire.RightMessage(s.Reply) || s.Reply.R.Inst != m.R.Inst) {
		t.Errorf("%v is answered by %v", m, s.Reply)
	}
	if !s.Has && !sameMessage(s.Reply, api.Message{}) {
		t.Errorf("%v has no answer, but %v", m, s.Reply)
	}
}

// checkAgain says where a repeated request is answered otherwise, or stored again.
func checkAgain(t *testing.T, l []api.Record, m api.Message, s accept.Step, err api.Errno) {
	t.Helper()
	want := s
	want.New, want.R = false, api.Record{}
	got, again := accept.Handle(l, m.To, m)
	checkStep(t, "a repeated request", got, again, want, err)
}

// checkConsequences asks, says where a consequence does not hold, and returns the view behind the answer.
func checkConsequences(t *testing.T, l []api.Record, m api.Message) []api.Record {
	t.Helper()
	s, err := checkModel(t, l, m)
	checkStored(t, l, m, s)
	checkReply(t, m, s)
	if s.New {
		l = append(l[:len(l):len(l)], s.R)
	}
	checkAgain(t, l, m, s, err)
	return l
}

// Where all records are valid, what is stored is valid and loses nothing, replies are valid, and a repeated request gets the same answer.
func TestP12_3And4AllRequests(t *testing.T) {
	for _, l := range views() {
		for _, m := range requests(here) {
			checkConsequences(t, l, m)
		}
	}
}

// All rows of up to four requests, about two instances.
func TestP12_3And4AllRows(t *testing.T) {
	var some []api.Message
	for _, b := range []api.Ballot{zero, low, mid} {
		some = append(some, preAccept(b, 3+b.Number), put(b, 3+b.Number), commit(b, 3), prepare(b))
	}
	some = append(some, message(api.MsgPreAccept, zero, 8, there), message(api.MsgCommit, low, 9, there))
	checkRows(t, nil, some, 4)
}

func checkRows(t *testing.T, l []api.Record, some []api.Message, more int) {
	t.Helper()
	if more == 0 {
		return
	}
	for _, m := range some {
		checkRows(t, checkConsequences(t, l, m), some, more-1)
	}
}

// What Begin returns is valid, and another replica that knows the same keeps it as it is.
func TestP12_3BeginIsValid(t *testing.T) {
	for _, l := range views() {
		for _, c := range []api.Command{validate(6, "a"), decide(3, "c"), {}} {
			r, err := accept.Begin(l, 3, c)
			if err != api.OK || !wire.RightRecord(r) {
				t.Errorf("Begin(%v, 3, %v) = %v, %d", l, c, r, err)
			}
			checkRecord(t, "what is known of a new instance", accept.Know(l, r.Inst), api.Record{Inst: r.Inst})
			m := api.Message{Kind: api.MsgPreAccept, From: 3, To: self, R: r}
			want := accept.Step{R: r, New: true, Reply: api.Message{Kind: api.MsgPreOK, From: self, To: 3, R: r}, Has: true}
			checkHandle(t, "what Begin returned", l, m, want)
		}
	}
}

// A replica that knows another command that interferes does not keep what was proposed, and what it answers waits for that one.
func TestP12_3BeginElsewhere(t *testing.T) {
	a, _ := accept.Begin(nil, 0, validate(1, "a"))
	b, _ := accept.Begin(nil, 1, validate(2, "a"))
	s, err := accept.Handle([]api.Record{a}, 0, api.Message{Kind: api.MsgPreAccept, From: 1, R: b})
	want := b
	want.Seq, want.Deps, want.Kept = 2, api.Deps{1}, false
	checkStep(t, "another one", s, err, accept.Step{R: want, New: true, Reply: api.Message{Kind: api.MsgPreOK, To: 1, R: want}, Has: true}, api.OK)
}
