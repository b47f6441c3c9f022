package accept_test

import (
	"math"
	"slices"
	"strconv"
	"testing"

	"althing/accept"
	"althing/api"
)

func TestP12_1Know(t *testing.T) {
	first, other, second := kept(record(3, here, api.PreAccept, mid, low)), record(4, there, api.Committed, high, low), record(5, here, api.Accepted, high, mid)
	none := record(0, here, api.None, high, zero)
	for name, c := range map[string]struct {
		l    []api.Record
		want api.Record
	}{
		"nothing":                {nil, api.Record{Inst: here}},
		"an empty view":          {[]api.Record{}, api.Record{Inst: here}},
		"one":                    {[]api.Record{first}, first},
		"only another":           {[]api.Record{other}, api.Record{Inst: here}},
		"another before it":      {[]api.Record{other, first}, first},
		"another behind it":      {[]api.Record{first, other}, first},
		"two":                    {[]api.Record{first, second}, second},
		"two, the other way":     {[]api.Record{second, first}, first},
		"two, and other ones":    {[]api.Record{other, first, other, second, other}, second},
		"one of None at the end": {[]api.Record{first, second, none}, none},
		"one of None before":     {[]api.Record{none, first}, first},
	} {
		checkRecord(t, "Know of "+name, accept.Know(c.l, here), c.want)
	}
}

// What makes two instances is the replica, the slot, or both; any numbers may be asked about.
func TestP12_1KnowTellsInstancesApart(t *testing.T) {
	var l []api.Record
	for _, replica := range append(notReplicas(), 0, 1, 6) {
		for _, slot := range []int{math.MinInt, -1, 0, 1, 2, 7, last, last + 1, 1 << 32, 1<<32 + 1, math.MaxInt} {
			i := api.Instance{Replica: replica, Slot: slot}
			checkRecord(t, "Know of what is not there", accept.Know(l, i), api.Record{Inst: i})
			l = append(l, record(len(l)+1, i, api.PreAccept, mid, low))
		}
	}
	for _, r := range l {
		checkRecord(t, "Know", accept.Know(l, r.Inst), r)
	}
}

// A record is known as it stands, also one that is not valid.
func TestP12_1KnowIsTheWholeRecord(t *testing.T) {
	for _, status := range []int{math.MinInt, -1, 0, 1, 2, 3, 4, math.MaxInt} {
		r := api.Record{
			Inst: here, Status: status, Promise: api.Ballot{Number: -1, Replica: 9}, Ballot: api.Ballot{Number: top + 1, Replica: -9}, Seq: -5,
			Cmd: api.Command{Kind: 7, Reads: []api.Read{{Key: "b"}, {Key: "a"}}, Writes: []api.Write{{Key: "too long for a key"}}}, Deps: api.Deps{-1, 0, 0, 0, 0, 0, last + 1}, Kept: true,
		}
		checkRecord(t, "Know", accept.Know([]api.Record{r}, here), r)
	}
}

// A long view, in which each instance comes four times.
func TestP12_1KnowOfALongView(t *testing.T) {
	const size = 20000
	var l []api.Record
	for k := range 4 * size {
		l = append(l, api.Record{Inst: api.Instance{Slot: k % size}, Seq: k})
	}
	for _, slot := range []int{0, 1, size / 2, size - 1} {
		i := api.Instance{Slot: slot}
		checkRecord(t, "Know of a long view", accept.Know(l, i), api.Record{Inst: i, Seq: 3*size + slot})
	}
}

func TestP12_1Begin(t *testing.T) {
	at := func(replica, slot int) api.Instance { return api.Instance{Replica: replica, Slot: slot} }
	l := []api.Record{
		record(9, at(2, 3), api.PreAccept, high, low), record(4, at(2, 3), api.Accepted, high, low), record(0, at(2, 5), api.None, high, zero),
		of(record(20, at(2, 4), api.Committed, mid, mid), validate(20, "b")), record(6, at(1, 8), api.Committed, mid, mid), of(record(7, at(0, 2), api.Committed, zero, zero), api.Command{}),
	}
	for _, c := range []struct {
		name    string
		l       []api.Record
		replica int
		c       api.Command
		slot    int
		seq     int
		deps    api.Deps
	}{
		{"nothing", nil, 0, validate(1, "a"), 1, 1, api.Deps{}},
		{"nothing, for the last replica", nil, 6, decide(1, "a"), 1, 1, api.Deps{}},
		{"a Noop", l, 2, api.Command{}, 6, 1, api.Deps{}},
		{"its own ones and others", l, 2, validate(1, "a"), 6, 7, api.Deps{0, 8, 3}},
		{"a Decide", l, 2, decide(1, "a"), 6, 7, api.Deps{0, 8, 3}},
		{"another replica", l, 1, validate(1, "a"), 9, 7, api.Deps{0, 8, 3}},
		{"a replica of which nothing is known", l, 4, validate(1, "a"), 1, 7, api.Deps{0, 8, 3}},
		{"another key", l, 0, validate(1, "b"), 3, 21, api.Deps{0, 0, 4}},
		{"the same name", l, 2, decide(20, "c"), 6, 21, api.Deps{0, 0, 4}},
		{"no common key", l, 2, validate(1, "c"), 6, 1, api.Deps{}},
	} {
		got, err := accept.Begin(c.l, c.replica, c.c)
		want := api.Record{Inst: at(c.replica, c.slot), Status: api.PreAccept, Cmd: c.c, Seq: c.seq, Deps: c.deps, Kept: true}
		if err != api.OK {
			t.Errorf("Begin with %s: %d", c.name, err)
		}
		checkRecord(t, "Begin with "+c.name, got, want)
	}
}

func TestP12_1BeginAtTheEnd(t *testing.T) {
	for _, c := range []struct {
		slot int
		want api.Errno
	}{
		{1, api.OK}, {last - 2, api.OK}, {last - 1, api.OK}, {last, api.ErrRange}, {last + 1, api.ErrRange}, {1 << 32, api.ErrRange}, {math.MaxInt, api.ErrRange},
	} {
		l := []api.Record{of(record(1, api.Instance{Replica: 2, Slot: c.slot}, api.PreAccept, zero, zero), validate(1, "b"))}
		want := api.Record{Inst: api.Instance{Replica: 2, Slot: c.slot + 1}, Status: api.PreAccept, Cmd: validate(2, "a"), Seq: 1, Kept: true}
		if c.want != api.OK {
			want = api.Record{}
		}
		got, err := accept.Begin(l, 2, validate(2, "a"))
		if err != c.want {
			t.Errorf("Begin behind slot %d: %d, want %d", c.slot, err, c.want)
		}
		checkRecord(t, "Begin behind slot "+strconv.Itoa(c.slot), got, want)
		if r, err := accept.Begin(l, 1, validate(2, "a")); err != api.OK || r.Inst.Slot != 1 {
			t.Errorf("Begin of another replica: %v, %d", r, err)
		}
	}
	full := record(1, api.Instance{Replica: 2, Slot: 3}, api.PreAccept, zero, zero)
	full.Seq = top
	if r, err := accept.Begin([]api.Record{full}, 2, validate(2, "a")); err != api.OK || r.Seq != top || r.Deps != (api.Deps{0, 0, 3}) {
		t.Errorf("Begin behind the greatest Seq: %v, %d", r, err)
	}
}

func TestP12_1BeginOfWhatMayNotBe(t *testing.T) {
	full := []api.Record{record(1, api.Instance{Replica: 2, Slot: last}, api.PreAccept, zero, zero)}
	wrongTime, wrongKey := validate(1, "a"), validate(1, "abcdefghi")
	wrongTime.At.Client = 2
	check := func(what string, l []api.Record, replica int, c api.Command) {
		t.Helper()
		r, err := accept.Begin(l, replica, c)
		if err != api.ErrArg {
			t.Errorf("Begin of %s: %d", what, err)
		}
		checkRecord(t, "Begin of "+what, r, api.Record{})
	}
	for _, replica := range notReplicas() {
		check("replica "+strconv.Itoa(replica), nil, replica, validate(1, "a"))
		check("replica "+strconv.Itoa(replica)+", without a slot", []api.Record{record(1, api.Instance{Replica: replica, Slot: last}, api.PreAccept, zero, zero)}, replica, api.Command{})
	}
	for k, c := range []api.Command{wrongTime, wrongKey, {Commit: true}, {Kind: 3}, {Kind: -1}, {Kind: api.Validate}} {
		check("command "+strconv.Itoa(k), nil, 2, c)
		check("command "+strconv.Itoa(k)+", without a slot", full, 2, c)
	}
	for replica := range 7 {
		if r, err := accept.Begin(nil, replica, validate(1, "a")); err != api.OK || r.Inst.Replica != replica {
			t.Errorf("Begin of %d: %v, %d", replica, r, err)
		}
	}
}

func TestP12_2WhatIsNoRequest(t *testing.T) {
	pre, acc, com, prep := preAccept(low, 3), put(low, 4), commit(low, 5), prepare(low)
	wrong := map[string]api.Message{
		"nothing":                              {},
		"PreAccept of None":                    with(pre, func(m *api.Message) { m.R = api.Record{Inst: here} }),
		"PreAccept of the Promise of None":     with(pre, func(m *api.Message) { m.R = api.Record{Inst: here, Promise: low} }),
		"PreAccept of Accepted":                with(pre, func(m *api.Message) { m.R.Status = api.Accepted }),
		"PreAccept of Committed":               with(pre, func(m *api.Message) { m.R.Status = api.Committed }),
		"PreAccept with a greater ballot":      with(pre, func(m *api.Message) { m.Ballot = mid }),
		"PreAccept with its Promise":           with(pre, func(m *api.Message) { m.Ballot, m.R.Promise = mid, mid }),
		"PreAccept with a lesser ballot":       with(pre, func(m *api.Message) { m.Ballot = zero }),
		"PreAccept with another's ballot":      with(pre, func(m *api.Message) { m.Ballot.Replica = 4 }),
		"Accept of None":                       with(acc, func(m *api.Message) { m.R = api.Record{Inst: here} }),
		"Accept of PreAccept":                  with(acc, func(m *api.Message) { m.R.Status = api.PreAccept }),
		"Accept of Kept":                       with(acc, func(m *api.Message) { m.R.Status, m.R.Kept = api.PreAccept, true }),
		"Accept of Committed":                  with(acc, func(m *api.Message) { m.R.Status = api.Committed }),
		"Accept with a greater ballot":         with(acc, func(m *api.Message) { m.Ballot = mid }),
		"Accept with its Promise":              with(acc, func(m *api.Message) { m.Ballot, m.R.Promise = mid, mid }),
		"Accept with a lesser ballot":          with(acc, func(m *api.Message) { m.Ballot = zero }),
		"Accept with another's ballot":         with(acc, func(m *api.Message) { m.Ballot.Replica = 4 }),
		"Commit of None":                       with(com, func(m *api.Message) { m.R = api.Record{Inst: here} }),
		"Commit of PreAccept":                  with(com, func(m *api.Message) { m.R.Status = api.PreAccept }),
		"Commit of Accepted":                   with(com, func(m *api.Message) { m.R.Status = api.Accepted }),
		"Commit of Kept":                       with(com, func(m *api.Message) { m.R.Kept = true }),
		"Commit of a Promise below its Ballot": with(com, func(m *api.Message) { m.R.Promise = zero }),
		"Commit of a wrong command":            with(com, func(m *api.Message) { m.R.Cmd.Shards = 0 }),
		"Commit of a wrong ballot":             with(com, func(m *api.Message) { m.Ballot = api.Ballot{Number: -1} }),
		"PreAccept of a wrong command":         with(pre, func(m *api.Message) { m.R.Cmd.Commit = true }),
		"PreAccept without a Seq":              with(pre, func(m *api.Message) { m.R.Seq = 0 }),
		"Accept of wrong Deps":                 with(acc, func(m *api.Message) { m.R.Deps[6] = last + 1 }),
		"Accept of a Seq beyond the greatest":  with(acc, func(m *api.Message) { m.R.Seq = top + 1 }),
		"Prepare of no instance":               with(prep, func(m *api.Message) { m.R.Inst = api.Instance{} }),
		"Prepare of a wrong record":            with(prep, func(m *api.Message) { m.R.Seq = 1 }),
		"Prepare of a wrong Status":            with(prep, func(m *api.Message) { m.R.Status = 4 }),
		"Prepare of a wrong ballot":            with(prep, func(m *api.Message) { m.Ballot.Number = top + 1 }),
		"Prepare from nobody":                  with(prep, func(m *api.Message) { m.From = 7 }),
		"Prepare from below":                   with(prep, func(m *api.Message) { m.From = -1 }),
	}
	for _, m := range []api.Message{pre, acc, com, prep} {
		for _, kind := range []int{math.MinInt, -1, 0, api.MsgPreOK, api.MsgAcceptOK, api.MsgPrepareOK, api.MsgNack, 9, 1<<32 + m.Kind, math.MaxInt} {
			wrong["kind "+strconv.Itoa(kind)+" for "+strconv.Itoa(m.Kind)] = with(m, func(m *api.Message) { m.Kind = kind })
		}
	}
	for _, l := range views() {
		for name, m := range wrong {
			got, err := accept.Handle(l, m.To, m)
			checkStep(t, name, got, err, accept.Step{}, api.ErrArg)
		}
	}
}

// A message is a request to the one to which it goes, and to no other one, not even to the one from which it comes.
func TestP12_2RequestsToOthers(t *testing.T) {
	replicas := append(notReplicas(), 0, 1, 2, 3, 4, 5, 6)
	for _, m := range requests(here) {
		for _, to := range replicas {
			for _, asked := range replicas {
				m.To = to
				want, wanted := accept.Step{}, api.ErrArg
				if to == asked && to >= 0 && to <= 6 {
					want, wanted = handle(nil, m)
				}
				got, err := accept.Handle(nil, asked, m)
				checkStep(t, "to "+strconv.Itoa(to)+", asked "+strconv.Itoa(asked), got, err, want, wanted)
			}
		}
	}
}

func TestP12_2Commit(t *testing.T) {
	for _, c := range []struct {
		name    string
		l       []api.Record
		m       api.Message
		promise api.Ballot
	}{
		{"unknown", nil, commit(mid, 5), mid},
		{"unknown, with the zero ballot", nil, commit(zero, 5), zero},
		{"a lesser promise", []api.Record{record(0, here, api.None, low, zero)}, commit(mid, 5), mid},
		{"the same promise", []api.Record{record(0, here, api.None, mid, zero)}, commit(mid, 5), mid},
		{"a greater promise", []api.Record{record(0, here, api.None, high, zero)}, commit(mid, 5), high},
		{"pre-accepted", []api.Record{kept(record(3, here, api.PreAccept, high, low))}, commit(mid, 5), high},
		{"accepted", []api.Record{record(3, here, api.Accepted, low, low)}, commit(mid, 5), mid},
		{"accepted with the same ballot", []api.Record{record(3, here, api.Accepted, mid, mid)}, commit(mid, 5), mid},
		{"accepted with a greater one", []api.Record{record(3, here, api.Accepted, high, high)}, commit(mid, 5), high},
		{"another one committed", []api.Record{record(3, there, api.Committed, high, high)}, commit(mid, 5), mid},
		{"a Promise of its own", nil, with(commit(low, 5), func(m *api.Message) { m.R.Promise = high }), low},
		{"a Promise of its own, and a known one", []api.Record{record(0, here, api.None, mid, zero)}, with(commit(low, 5), func(m *api.Message) { m.R.Promise = high }), mid},
		{"a ballot of the message", nil, with(commit(low, 5), func(m *api.Message) { m.Ballot = high }), low},
		{"a lesser ballot of the message", nil, with(commit(mid, 5), func(m *api.Message) { m.Ballot = low }), mid},
	} {
		want := c.m.R
		want.Promise = c.promise
		checkHandle(t, c.name, c.l, c.m, accept.Step{R: want, New: true})
	}
}

func TestP12_2CommitOfWhatIsCommitted(t *testing.T) {
	for _, promise := range []api.Ballot{mid, high} {
		l := []api.Record{record(3, here, api.Committed, promise, mid)}
		for _, b := range ballots() {
			checkHandle(t, "the same", l, commit(b, 3), accept.Step{})
			checkHandle(t, "another one", l, commit(b, 5), accept.Step{})
		}
	}
}

// What is committed is told to whoever asks, with whatever ballot.
func TestP12_2KnownToBeCommitted(t *testing.T) {
	for _, promise := range []api.Ballot{mid, high} {
		k := record(3, here, api.Committed, promise, mid)
		for _, b := range ballots() {
			for _, m := range []api.Message{preAccept(b, 3), preAccept(b, 4), put(b, 3), put(b, 4), prepare(b)} {
				want := accept.Step{Has: true, Reply: api.Message{Kind: api.MsgCommit, From: self, To: from, Ballot: mid, R: k}}
				checkHandle(t, "committed", []api.Record{k}, m, want)
			}
		}
	}
}

func TestP12_2Nack(t *testing.T) {
	for _, k := range []api.Record{
		record(0, here, api.None, mid, zero), record(3, here, api.PreAccept, mid, low), kept(record(3, here, api.PreAccept, mid, zero)),
		record(3, here, api.PreAccept, mid, mid), record(3, here, api.Accepted, mid, low), record(3, here, api.Accepted, mid, mid),
	} {
		for _, b := range []api.Ballot{zero, low, {Number: 2, Replica: 6}, {Number: 3}} {
			for _, m := range []api.Message{preAccept(b, 3), put(b, 3), prepare(b)} {
				want := accept.Step{Has: true, Reply: api.Message{Kind: api.MsgNack, From: self, To: from, Ballot: mid, R: api.Record{Inst: here}}}
				checkHandle(t, "too low", []api.Record{k}, m, want)
			}
		}
	}
}

func TestP12_2PreAccept(t *testing.T) {
	seq9 := record(9, there, api.Committed, mid, mid)
	asked := preAccept(low, 5) // Seq 5, Deps 5 0 2
	for _, c := range []struct {
		name string
		l    []api.Record
		m    api.Message
		seq  int
		deps api.Deps
		kept bool
	}{
		{"unknown", nil, asked, 5, api.Deps{5, 0, 2}, true},
		{"unknown, with the zero ballot", nil, preAccept(zero, 5), 5, api.Deps{5, 0, 2}, true},
		{"Kept already", nil, with(asked, func(m *api.Message) { m.R.Kept = true }), 5, api.Deps{5, 0, 2}, true},
		{"Kept no longer", []api.Record{seq9}, with(asked, func(m *api.Message) { m.R.Kept = true }), 10, api.Deps{5, 0, 2, 0, 0, 7}, false},
		{"a Promise of its own", nil, with(asked, func(m *api.Message) { m.R.Promise = high }), 5, api.Deps{5, 0, 2}, true},
		{"Seq and Deps", []api.Record{seq9}, asked, 10, api.Deps{5, 0, 2, 0, 0, 7}, false},
		{"Seq alone", []api.Record{seq9}, with(asked, func(m *api.Message) { m.R.Deps[5] = 7 }), 10, api.Deps{5, 0, 2, 0, 0, 7}, false},
		{"Deps alone", []api.Record{seq9}, with(asked, func(m *api.Message) { m.R.Seq = 10 }), 10, api.Deps{5, 0, 2, 0, 0, 7}, false},
		{"neither", []api.Record{seq9}, with(asked, func(m *api.Message) { m.R.Seq, m.R.Deps[5] = 10, 7 }), 10, api.Deps{5, 0, 2, 0, 0, 7}, true},
		{"both greater already", []api.Record{seq9}, with(asked, func(m *api.Message) { m.R.Seq, m.R.Deps[5] = 11, 8 }), 11, api.Deps{5, 0, 2, 0, 0, 8}, true},
		{"without a common key", []api.Record{seq9}, with(asked, func(m *api.Message) { m.R.Cmd = validate(5, "b") }), 5, api.Deps{5, 0, 2}, true},
		{"a Noop", []api.Record{seq9}, with(asked, func(m *api.Message) { m.R.Cmd = api.Command{} }), 5, api.Deps{5, 0, 2}, true},
		{"its own instance in its Deps", nil, with(asked, func(m *api.Message) { m.R.Deps[1] = 3 }), 5, api.Deps{5, 3, 2}, true},
		{"promised", []api.Record{record(0, here, api.None, low, zero)}, asked, 5, api.Deps{5, 0, 2}, true},
		{"promised less", []api.Record{record(0, here, api.None, api.Ballot{Number: 1, Replica: 4}, zero)}, asked, 5, api.Deps{5, 0, 2}, true},
		{"pre-accepted before", []api.Record{record(30, here, api.PreAccept, low, zero)}, asked, 5, api.Deps{5, 0, 2}, true},
		{"accepted before", []api.Record{record(30, here, api.Accepted, low, zero)}, asked, 5, api.Deps{5, 0, 2}, true},
		{"committed before, but not any more", []api.Record{record(30, here, api.Committed, low, low), record(3, here, api.PreAccept, zero, zero)}, asked, 5, api.Deps{5, 0, 2}, true},
	} {
		want := api.Record{Inst: here, Status: api.PreAccept, Promise: c.m.Ballot, Ballot: c.m.Ballot, Cmd: c.m.R.Cmd, Seq: c.seq, Deps: c.deps, Kept: c.kept}
		reply := api.Message{Kind: api.MsgPreOK, From: self, To: from, Ballot: c.m.Ballot, R: want}
		checkHandle(t, c.name, c.l, c.m, accept.Step{R: want, New: true, Reply: reply, Has: true})
	}
}

// What was pre-accepted with the ballot is told again, whatever is asked about now, and whatever became known meanwhile.
func TestP12_2PreAcceptAgain(t *testing.T) {
	for _, b := range ballots() {
		for _, k := range []api.Record{record(3, here, api.PreAccept, b, b), kept(record(3, here, api.PreAccept, b, b))} {
			for _, m := range []api.Message{preAccept(b, 3), preAccept(b, 5), with(preAccept(b, 3), func(m *api.Message) { m.R.Cmd = api.Command{} })} {
				want := accept.Step{Has: true, Reply: api.Message{Kind: api.MsgPreOK, From: self, To: from, Ballot: b, R: k}}
				checkHandle(t, "again", []api.Record{k, record(9, there, api.Committed, mid, mid)}, m, want)
			}
		}
	}
}

func TestP12_2PreAcceptOfWhatIsAccepted(t *testing.T) {
	for _, b := range ballots() {
		l := []api.Record{record(3, here, api.Accepted, b, b)}
		for _, number := range []int{3, 5} {
			got, err := accept.Handle(l, self, preAccept(b, number))
			checkStep(t, "too late", got, err, accept.Step{}, api.ErrState)
		}
	}
}

func TestP12_2Accept(t *testing.T) {
	for name, l := range map[string][]api.Record{
		"unknown":                             nil,
		"promised":                            {record(0, here, api.None, mid, zero)},
		"promised less":                       {record(0, here, api.None, low, zero)},
		"pre-accepted":                        {kept(record(3, here, api.PreAccept, zero, zero))},
		"pre-accepted with this ballot":       {record(3, here, api.PreAccept, mid, mid)},
		"pre-accepted, and promised":          {record(3, here, api.PreAccept, mid, low)},
		"accepted before":                     {record(3, here, api.Accepted, low, low)},
		"accepted before, and promised":       {record(3, here, api.Accepted, mid, low)},
		"another one accepted":                {record(3, there, api.Accepted, mid, mid)},
		"another one that interferes, behind": {record(30, there, api.Committed, high, high)},
	} {
		for _, m := range []api.Message{put(mid, 5), with(put(mid, 5), func(m *api.Message) { m.R.Promise = high })} {
			want := record(5, here, api.Accepted, mid, mid)
			reply := api.Message{Kind: api.MsgAcceptOK, From: self, To: from, Ballot: mid, R: want}
			checkHandle(t, name, l, m, accept.Step{R: want, New: true, Reply: reply, Has: true})
		}
	}
}

// What was accepted with the ballot is told again, whatever is asked about now.
func TestP12_2AcceptAgain(t *testing.T) {
	for _, b := range ballots() {
		k := record(3, here, api.Accepted, b, b)
		for _, number := range []int{3, 5} {
			want := accept.Step{Has: true, Reply: api.Message{Kind: api.MsgAcceptOK, From: self, To: from, Ballot: b, R: k}}
			checkHandle(t, "again", []api.Record{k}, put(b, number), want)
		}
	}
}

func TestP12_2Prepare(t *testing.T) {
	for name, k := range map[string]api.Record{
		"unknown":                          {Inst: here},
		"promised":                         record(0, here, api.None, low, zero),
		"pre-accepted":                     record(3, here, api.PreAccept, low, zero),
		"pre-accepted, Kept":               kept(record(3, here, api.PreAccept, zero, zero)),
		"accepted":                         record(3, here, api.Accepted, low, low),
		"promised already":                 record(0, here, api.None, mid, zero),
		"pre-accepted, promised already":   kept(record(3, here, api.PreAccept, mid, low)),
		"pre-accepted with this ballot":    record(3, here, api.PreAccept, mid, mid),
		"accepted, promised already":       record(3, here, api.Accepted, mid, low),
		"accepted with this ballot":        record(3, here, api.Accepted, mid, mid),
		"promised to another with 3":       record(3, here, api.Accepted, api.Ballot{Number: 3}, low),
		"promised less to the one with it": record(3, here, api.Accepted, api.Ballot{Number: 2, Replica: 1}, low),
	} {
		for _, m := range []api.Message{prepare(mid), with(prepare(mid), func(m *api.Message) { m.R = record(9, here, api.Committed, high, low) })} {
			after := k
			after.Promise = mid
			want := accept.Step{Has: true, Reply: api.Message{Kind: api.MsgPrepareOK, From: self, To: from, Ballot: mid, R: after}}
			if k.Promise != mid {
				want.New, want.R = true, after
			}
			checkHandle(t, name, []api.Record{k}, m, want)
		}
	}
}

// The zero ballot is promised where nothing is known: there is nothing to store.
func TestP12_2PrepareWithTheZeroBallot(t *testing.T) {
	want := accept.Step{Has: true, Reply: api.Message{Kind: api.MsgPrepareOK, From: self, To: from, R: api.Record{Inst: here}}}
	checkHandle(t, "the zero ballot", nil, prepare(zero), want)
	checkHandle(t, "the zero ballot, of another", []api.Record{record(3, there, api.Accepted, mid, mid)}, prepare(zero), want)
}

// The document's example.
func TestP12_2Example(t *testing.T) {
	two := api.Ballot{Number: 2}
	got, err := accept.Handle(nil, self, prepare(two))
	if err != api.OK || !got.New {
		t.Errorf("Handle = %v, %d", got, err)
	}
	checkRecord(t, "what is stored", got.R, api.Record{Inst: here, Promise: two})
}

// The reply goes back to whoever asked, also to the replica itself.
func TestP12_2WhoIsTold(t *testing.T) {
	for _, l := range [][]api.Record{nil, {record(3, here, api.Committed, mid, mid)}, {record(0, here, api.None, high, zero)}, {record(3, here, api.PreAccept, mid, mid)}} {
		for _, m := range []api.Message{preAccept(mid, 5), put(mid, 5), prepare(mid)} {
			for from := range 7 {
				for to := range 7 {
					m.From, m.To = from, to
					got, err := accept.Handle(l, to, m)
					if err != api.OK || !got.Has || got.Reply.From != to || got.Reply.To != from {
						t.Errorf("Handle(%v, %v) = %v, %d", l, m, got, err)
					}
				}
			}
		}
	}
}

// Each request, whatever is known.
func TestP12_2AllRequests(t *testing.T) {
	for _, l := range views() {
		for _, m := range slices.Concat(requests(here), requests(there)) {
			checkModel(t, l, m)
		}
	}
}

// A view of records that are not valid is taken as it stands.
func TestP12_2WrongViews(t *testing.T) {
	wrongBallots := append(ballots(), api.Ballot{Number: -1}, api.Ballot{Number: 3, Replica: -1}, api.Ballot{Number: 3, Replica: 9}, api.Ballot{Number: math.MaxInt, Replica: math.MinInt}, api.Ballot{Number: math.MinInt, Replica: math.MaxInt})
	for _, status := range []int{math.MinInt, -1, 0, 1, 2, 3, 4, 1<<32 + 3, math.MaxInt} {
		for _, promise := range wrongBallots {
			for _, b := range wrongBallots {
				k := record(3, here, api.PreAccept, promise, b)
				k.Status, k.Kept, k.Deps[3], k.Cmd.Shards = status, true, -4, 0
				other := record(3, api.Instance{Replica: 9, Slot: -2}, api.PreAccept, promise, b)
				other.Status, other.Seq, other.Inst.Slot = status, math.MaxInt, math.MaxInt
				for _, m := range requests(here) {
					checkModel(t, []api.Record{k, other}, m)
				}
			}
		}
	}
}
