package repair_test

import (
	"slices"
	"testing"

	"althing/accept"
	"althing/api"
	"althing/quorum"
	"althing/repair"
	"althing/wire"
)

// told are votes of some replicas in all states, and each with what it alone has.
func told(replicas []int, states func(number int) []api.Record) []repair.Vote {
	var l []repair.Vote
	for _, from := range replicas {
		for k, r := range states(1) {
			if r.Status != api.None {
				r.Seq = 10*k + from + 1
			}
			l = append(l, vote(from, r))
		}
	}
	return l
}

// few are those states of which there is one for each case.
func few(number int) []api.Record {
	return []api.Record{nothing(), kept(state(number, 1, zero)), state(number, 1, low), state(number, 2, low), state(number, 3, low)}
}

// refusable are votes that are refused, if they count.
func refusable() []repair.Vote {
	return []repair.Vote{vote(7, nothing()), vote(2, wrong()["another slot"]), vote(0, wrong()["a Seq of 0"]), vote(-1, state(3, 3, low))}
}

func TestP13_1And2AllListsOfVotes(t *testing.T) {
	for more := range 4 {
		lists(append(told([]int{0, 1, 2}, states), refusable()...), nil, more, func(l []repair.Vote) { checkModel(t, 1, here, l) })
	}
	lists(append(told([]int{0, 1, 2}, few), refusable()...), nil, 4, func(l []repair.Vote) { checkModel(t, 1, here, l) })
	lists(told([]int{0, 1, 2, 3, 4}, few), nil, 3, func(l []repair.Vote) { checkModel(t, 2, here, l) })
}

// Lists of four to seven votes, some tens of thousands of all that there are.
func TestP13_1And2LongListsOfVotes(t *testing.T) {
	some := told([]int{0, 1, 2, 3, 4, 5, 6}, states)
	for f := 2; f <= 3; f++ {
		at := 1
		for k := range 40000 {
			var l []repair.Vote
			for n := range f + 2 + k%3 {
				at = at * 48271 % (1<<31 - 1)
				v := some[at%len(some)]
				// Mostly replicas one behind the other, so that many of them count.
				if k%4 > 0 {
					v.From = (k + n) % (2*f + 1)
				}
				l = append(l, v)
			}
			checkModel(t, f, here, l)
		}
	}
}

// majorities calls a function with each majority of a shard, as votes in increasing and in decreasing order.
func majorities(f int, records []api.Record, call func(set int, l []repair.Vote)) {
	for set := range 1 << (2*f + 1) {
		if !quorum.Major(f, set) {
			continue
		}
		var up, down []repair.Vote
		for _, k := range quorum.Members(set) {
			up = append(up, vote(k, records[k]))
			down = append([]repair.Vote{vote(k, records[k])}, down...)
		}
		call(set, up)
		call(set, down)
	}
}

// A replica may miss the proposal, or have it changed, or have it from another one that took the instance over.
func TestP13_3AFastQuorum(t *testing.T) {
	proposal := kept(state(5, 1, zero))
	others := []api.Record{proposal}
	for _, r := range states(6) {
		if r.Status <= api.PreAccept && !(r.Kept && r.Ballot == zero) {
			others = append(others, r)
		}
	}
	for f := 1; f <= 3; f++ {
		for missing := range 2*f + 1 {
			for _, r := range others {
				if missing != own {
					checkFastQuorum(t, f, missing, r, proposal)
				}
			}
		}
	}
}

// checkFastQuorum lets all replicas but one, which has another record, have a proposal.
func checkFastQuorum(t *testing.T, f, missing int, r, proposal api.Record) {
	t.Helper()
	records := slices.Repeat([]api.Record{proposal}, 2*f+1)
	records[missing] = r
	majorities(f, records, func(set int, l []repair.Vote) {
		if !quorum.Has(set, own) {
			checkDecide(t, "a fast quorum", f, here, l, as(2, proposal), api.OK)
			checkFast(t, "a fast quorum", f, here, l, true)
		}
	})
}

// One less than a fast quorum: there is a majority that does not take it for one.
func TestP13_3LessThanAFastQuorum(t *testing.T) {
	for f := 1; f <= 3; f++ {
		proposal := kept(state(5, 1, zero))
		records := slices.Repeat([]api.Record{proposal}, 2*f+1)
		for k := range f + 1 {
			records[(own+1+k)%(2*f+1)] = nothing()
		}
		fast, slow := 0, 0
		majorities(f, records, func(set int, l []repair.Vote) {
			if quorum.Has(set, own) {
				return
			}
			if repair.Fast(f, here, l) {
				fast++
			} else {
				slow++
			}
		})
		if slow == 0 || fast > 0 {
			t.Errorf("F %d: %d majorities take it for fast, %d do not", f, fast, slow)
		}
	}
}

// What a majority accepted, among what the others can have.
func TestP13_4WhatAMajorityAccepted(t *testing.T) {
	for f := 1; f <= 3; f++ {
		for _, b := range ballots() {
			put := state(5, 2, b)
			var others []api.Record
			for _, r := range states(6) {
				isLater := r.Ballot.Number > b.Number || r.Ballot.Number == b.Number && r.Ballot.Replica >= b.Replica
				if r.Status < api.Accepted || r.Status == api.Accepted && !isLater {
					others = append(others, r)
				}
			}
			others = append(others, put)
			for set := range 1 << (2*f + 1) {
				if quorum.Count(set) == f+1 {
					checkAccepted(t, f, set, put, others)
				}
			}
		}
	}
}

// Some of a majority that accepted something may have learnt that it is committed.
func TestP13_4WhatIsCommittedToo(t *testing.T) {
	for f := 1; f <= 3; f++ {
		put := state(5, 2, mid)
		com := with(put, func(r *api.Record) { r.Status = api.Committed })
		for from := range 2*f + 1 {
			records := slices.Repeat([]api.Record{state(6, 2, low)}, 2*f+1)
			for k := range f + 1 {
				records[(from+k)%(2*f+1)] = put
			}
			records[from] = com
			majorities(f, records, func(set int, l []repair.Vote) {
				status := api.Accepted
				if quorum.Has(set, from) {
					status = api.Committed
				}
				checkDecide(t, "what is committed too", f, here, l, as(status, put), api.OK)
			})
		}
	}
}

// checkAccepted lets a set of replicas have accepted something, and the others each of some records.
func checkAccepted(t *testing.T, f, accepted int, put api.Record, others []api.Record) {
	t.Helper()
	for shift := range others {
		records := make([]api.Record, 2*f+1)
		for k := range records {
			records[k] = others[(shift+3*k)%len(others)]
			if quorum.Has(accepted, k) {
				records[k] = put
			}
		}
		majorities(f, records, func(_ int, l []repair.Vote) {
			checkDecide(t, "what a majority accepted", f, here, l, as(2, put), api.OK)
		})
	}
}

// ask lets a replica answer a request, and returns what it knows then, and its reply.
func ask(t *testing.T, l []api.Record, m api.Message) ([]api.Record, api.Message) {
	t.Helper()
	s, err := accept.Handle(l, m.To, m)
	if err != api.OK || !s.Has {
		t.Fatalf("Handle(%v, %v) = %v, %d", l, m, s, err)
	}
	if s.New {
		l = append(l, s.R)
	}
	return l, s.Reply
}

// prepared are the votes of all replicas that a new leader asks.
func prepared(t *testing.T, f int, views [][]api.Record) []api.Record {
	t.Helper()
	records := make([]api.Record, 2*f+1)
	for k := range records {
		m := api.Message{Kind: api.MsgPrepare, From: 2, To: k, Ballot: high, R: api.Record{Inst: here}}
		_, reply := ask(t, views[k], m)
		records[k] = reply.R
	}
	return records
}

// What replicas answer is what is decided on: behind a proposal to all but one, and behind a MsgAccept to a majority. Another command is known to the one that is missing, and changes what it answers.
func TestP13_3And4Replicas(t *testing.T) {
	for f := 1; f <= 3; f++ {
		for missing := range 2*f + 1 {
			if missing == own {
				continue
			}
			views := make([][]api.Record, 2*f+1)
			for k := range views {
				views[k] = []api.Record{with(state(1, 3, zero), func(r *api.Record) { r.Inst.Slot, r.Cmd = 2, api.Command{} })}
			}
			views[missing] = append(views[missing], with(state(8, 2, zero), func(r *api.Record) { r.Inst.Replica = 2 }))
			proposal, _ := accept.Begin(views[own], own, validate(5))
			if proposal.Inst != here {
				t.Fatal(proposal)
			}
			views[own] = append(views[own], proposal)
			for k := range views {
				if k != own {
					views[k], _ = ask(t, views[k], api.Message{Kind: api.MsgPreAccept, From: own, To: k, R: proposal})
				}
			}
			majorities(f, prepared(t, f, views), func(set int, l []repair.Vote) {
				if !quorum.Has(set, own) {
					checkDecide(t, "what replicas answer", f, here, l, as(2, proposal), api.OK)
				}
			})
			checkPut(t, f, views, missing)
		}
	}
}

// checkPut lets the replicas from one on, as many as a majority needs, accept something.
func checkPut(t *testing.T, f int, views [][]api.Record, first int) {
	t.Helper()
	put := state(6, 2, mid)
	put.Promise = mid
	for k := range f + 1 {
		to := (first + k) % (2*f + 1)
		views[to], _ = ask(t, views[to], api.Message{Kind: api.MsgAccept, From: own, To: to, Ballot: mid, R: put})
	}
	majorities(f, prepared(t, f, views), func(_ int, l []repair.Vote) {
		checkDecide(t, "what replicas accepted", f, here, l, as(2, put), api.OK)
	})
}

// What is decided is a valid record, with which the instance can go on.
func TestP13_1ResultsAreValid(t *testing.T) {
	for _, a := range states(4) {
		for _, b := range states(5) {
			r, err := repair.Decide(1, here, []repair.Vote{vote(0, a), vote(2, b)})
			if err != api.OK || !wire.RightRecord(r) || r.Status == api.None {
				t.Errorf("Decide of %v and %v = %v, %d", a, b, r, err)
			}
		}
	}
}
