package durable_test

import (
	"fmt"
	"math"
	"testing"

	"hawala/api"
	"hawala/disk"
	"hawala/engine"
	"hawala/ops"
)

// many is a state that knows so many keys, those from 0 on.
func many(n int) api.State {
	s := ops.New()
	for k := range n {
		s.Known = append(s.Known, api.Known{Request: open(k, 0), Reply: failure(api.ErrLimit), Told: true})
	}
	return s
}

// crowd is a state with so many sagas, of the keys from 0 on, of each of which the one leg has agreed.
func crowd(n int) api.State {
	s := ops.New()
	s.Accounts[0].Balance = -100
	s.Accounts = append(s.Accounts, api.Account{Balance: 100, Held: n}, api.Account{})
	for k := range n {
		r := transfer(k, 9, 10, 1, 1)
		s.Sagas = append(s.Sagas, api.Saga{Request: r, Leg: 1})
		s.Known = append(s.Known, api.Known{Request: r})
	}
	return s
}

func late() api.State {
	s := ops.New()
	s.Now = ticks
	return s
}

// changed are events behind which a state has another encoding.
func changed() []said {
	return []said{
		{submit(open(20, 2)), api.Reply{ID: 11}, true},
		{submit(open(ticks-1, 0)), api.Reply{ID: 11}, true},
		{submit(deposit(20, 10, 1<<40)), api.Reply{}, true},
		{submit(transfer(0, 9, 10, 20, 0)), api.Reply{}, true},
		{submit(auth(20, 9, 10, 5, ticks)), api.Reply{ID: 1}, true},
		{submit(transfer(20, 9, 10, 20, 4)), failure(api.ErrPending), true},
		{step(9, true), failure(api.ErrPending), true},
		{step(9, false), failure(api.ErrPending), true},
		{tick(), api.Reply{}, true},
		// An error too is known from now on.
		{submit(deposit(20, 8, 1)), failure(api.ErrUnknown), true},
		{submit(transfer(20, 9, 10, 21, 0)), failure(api.ErrInsufficient), true},
		{submit(transfer(20, 9, 9, 1, 0)), failure(api.ErrBad), true},
		{submit(transfer(20, 9, 10, 21, 1)), failure(api.ErrInsufficient), true},
		{submit(transfer(20, 9, 64, 1, 2)), failure(api.ErrUnknown), true},
		{submit(auth(20, 9, 10, 5, 1)), failure(api.ErrBad), true},
		{submit(api.Request{Key: 20, Op: api.OpVoid}), failure(api.ErrState), true},
		{submit(api.Request{Key: 20, Op: api.OpVoid, A: math.MinInt, B: math.MaxInt, Amount: math.MinInt, Until: ticks}), failure(api.ErrUnknown), true},
	}
}

// unchanged are events behind which a state has the encoding that it had.
func unchanged() []said {
	events := []said{
		{submit(open(1, 0)), api.Reply{ID: 9}, false},
		{submit(transfer(4, 9, 10, 60, 0)), failure(api.ErrInsufficient), false},
		{submit(transfer(9, 10, 9, 7, 3)), failure(api.ErrPending), false},
		{submit(transfer(6, 9, 10, 10, 2)), failure(api.ErrLeg), false},
		{submit(transfer(6, 9, 10, 10, 3)), failure(api.ErrKey), false},
		{submit(open(9, 0)), failure(api.ErrKey), false},
		{submit(open(ticks, 0)), failure(api.ErrBad), false},
		{submit(open(-1, 0)), failure(api.ErrBad), false},
		{submit(open(20, 3)), failure(api.ErrBad), false},
		{submit(deposit(20, 9, 0)), failure(api.ErrBad), false},
		{submit(transfer(20, 9, 10, 5, 5)), failure(api.ErrBad), false},
		{submit(api.Request{Key: 20, Op: 8, Amount: 1}), failure(api.ErrBad), false},
	}
	for _, key := range []int{math.MinInt, -1<<62 - 1, -1 << 62, -1, 0, 1, 5, 6, 20, 1 << 62, 1<<62 + 1, math.MaxInt} {
		events = append(events, said{step(key, true), failure(api.ErrUnknown), false}, said{step(key, false), failure(api.ErrUnknown), false})
	}
	for _, what := range []int{math.MinInt, -1, 3, 4, math.MaxInt} {
		// The rest of it would do something, if it were of another What.
		events = append(events, said{api.Event{What: api.What(what), Request: open(20, 0), Key: 9, OK: true}, failure(api.ErrBad), false})
	}
	return events
}

// asked has an event executed on a disk that stops behind as many changes as it may make.
func asked(t *testing.T, w standing, d said) {
	t.Helper()
	when := fmt.Sprintf("turn %d, %d records", w.turn, len(w.es))
	disc := diskWith(t, w.files(), 100)
	x := begun(t, disc)
	changes := 0
	if d.changes {
		changes = 2
	}
	disc.Arm(changes)
	isDone(t, x, when, d.e, d.reply)
	if disc.Stopped() || x.Broken() {
		t.Errorf("%+v: too many changes", d.e)
	}
	// The armed disk stops at the very next one.
	if err := disc.Sync(disc.Names()[0]); err == nil {
		t.Errorf("%+v: too few changes", d.e)
	}
	if d.changes {
		w = w.with(d.e)
	}
	disc.Restart(0)
	stands(t, x, disc, when, w)
}

// P19.2

func TestDoOfTheStory(t *testing.T) {
	for _, w := range []standing{{}, {turn: 3, first: ops.New()}} {
		d := diskWith(t, w.files(), 5000)
		x := begun(t, d)
		for _, s := range story() {
			before := x.State()
			isDone(t, x, "the story", s.e, s.reply)
			if s.changes {
				w = w.with(s.e)
			}
			if equal(before, x.State()) == s.changes {
				t.Errorf("%+v: %+v, and then %+v", s.e, before, x.State())
			}
			stands(t, x, d, "the story", w)
		}
		if s := x.State(); !equal(s, told()) {
			t.Errorf("%+v, not\n%+v", s, told())
		}
		// All of it was safe.
		d.Restart(0)
		stands(t, begun(t, d), d, "restarted", w)
	}
}

// However often an Engine is opened anew between, or lays a snapshot, it goes on as one that was not.
func TestDoOfTheStoryInParts(t *testing.T) {
	all := story()
	for k := range all {
		for _, keeps := range []bool{false, true} {
			d := disk.Of(5000)
			x := begun(t, d)
			for n, s := range all {
				isDone(t, x, "in parts", s.e, s.reply)
				if n%(k+1) == k {
					if keeps {
						wantNil(t, "Keep", x.Keep())
					}
					d.Restart(n)
					x = begun(t, d)
				}
			}
			if s := x.State(); !equal(s, told()) {
				t.Errorf("%+v, not\n%+v", s, told())
			}
		}
	}
}

// Each event of the story twice: a request is told again, and changes nothing then.
func TestDoTwice(t *testing.T) {
	d := disk.Of(5000)
	x := begun(t, d)
	for _, s := range story() {
		isDone(t, x, "once", s.e, s.reply)
		if s.e.What != api.Submit {
			continue
		}
		before, records, files := x.State(), len(x.Records()), filesOf(d)
		isDone(t, x, "twice", s.e, s.reply)
		if !equal(before, x.State()) || len(x.Records()) != records {
			t.Errorf("%+v changes something when it is asked again", s.e)
		}
		wantFiles(t, d, "twice", files)
	}
}

func TestDoOfEvents(t *testing.T) {
	for _, w := range []standing{{es: laid(story())}, {turn: 1, first: told()}, {turn: 1, first: told(), es: []api.Event{step(77, true)}}, {turn: 130, first: told()}} {
		for _, s := range append(changed(), unchanged()...) {
			asked(t, w, s)
		}
	}
}

func TestDoAtTheLimits(t *testing.T) {
	for _, c := range []struct {
		s api.State
		d said
	}{
		{late(), said{tick(), api.Reply{}, false}},
		{late(), said{submit(open(1, 0)), api.Reply{ID: 9}, true}},
		{many(256), said{submit(open(256, 0)), failure(api.ErrLimit), false}},
		{many(256), said{submit(transfer(256, 9, 10, 1, 1)), failure(api.ErrLimit), false}},
		{many(256), said{submit(open(255, 0)), failure(api.ErrLimit), false}},
		{many(256), said{tick(), api.Reply{}, true}},
		{many(255), said{submit(open(255, 0)), api.Reply{ID: 9}, true}},
		{crowd(16), said{submit(transfer(16, 9, 10, 1, 1)), failure(api.ErrLimit), false}},
		{crowd(16), said{submit(transfer(15, 9, 10, 1, 1)), failure(api.ErrPending), false}},
		{crowd(16), said{submit(transfer(16, 9, 10, 1, 0)), api.Reply{}, true}},
		{crowd(16), said{step(15, false), api.Reply{}, true}},
		{crowd(15), said{submit(transfer(15, 9, 10, 1, 1)), failure(api.ErrPending), true}},
	} {
		asked(t, standing{turn: 1, first: c.s}, c.d)
	}
}

// The disk isn't asked for anything that changes nothing: it may be full, stop at the next call, or have stopped.
func TestDoOfWhatChangesNothing(t *testing.T) {
	w := standing{turn: 2, first: told(), es: []api.Event{step(9, true)}}
	for _, s := range unchanged() {
		d := diskWith(t, w.files(), 0)
		x := begun(t, d)
		isDone(t, x, "a full disk", s.e, s.reply)
		d.Arm(0)
		isDone(t, x, "an armed disk", s.e, s.reply)
		if d.Stopped() {
			t.Errorf("%+v changed the disk", s.e)
		}
		wantErr(t, "the stop", d.Sync(0), api.ErrCrash)
		isDone(t, x, "a stopped disk", s.e, s.reply)
		if x.Broken() {
			t.Errorf("%+v: Broken", s.e)
		}
		d.Restart(0)
		stands(t, x, d, "nothing changed", w)
	}
}

// What the What does not need is not encoded, and changes nothing.
func TestDoOfEventsWithMore(t *testing.T) {
	w := standing{turn: 2, first: told()}
	d := diskWith(t, w.files(), 500)
	x := begun(t, d)
	for _, c := range []struct {
		e, plain api.Event
		reply    api.Reply
	}{
		{api.Event{What: api.Tick, Request: open(1, 0), Key: 9, OK: true}, tick(), api.Reply{}},
		{api.Event{What: api.Step, Request: open(50, 0), Key: 9, OK: true}, step(9, true), failure(api.ErrPending)},
		{api.Event{What: api.Submit, Request: open(50, 0), Key: 9, OK: true}, submit(open(50, 0)), api.Reply{ID: 11}},
	} {
		isDone(t, x, "with more", c.e, c.reply)
		w = w.with(c.plain)
		stands(t, x, d, "with more", w)
	}
}

// The document's own example, with an Engine that is opened anew behind each event.
func TestDoOfTheExample(t *testing.T) {
	r := transfer(4, 9, 10, 30, 1)
	d := disk.Of(1000)
	for _, s := range []struct {
		e      api.Event
		reply  api.Reply
		a, b   int
		isHeld int
	}{
		{submit(open(1, 0)), api.Reply{ID: 9}, 0, 0, 0},
		{submit(open(2, 0)), api.Reply{ID: 10}, 0, 0, 0},
		{submit(deposit(3, 9, 50)), api.Reply{}, 50, 0, 0},
		{submit(r), failure(api.ErrPending), 50, 0, 30},
		{step(4, true), failure(api.ErrPending), 50, 0, 30},
		{step(4, true), api.Reply{}, 20, 30, 0},
		{submit(r), api.Reply{}, 20, 30, 0},
	} {
		isDone(t, begun(t, d), "the example", s.e, s.reply)
		d.Restart(0)
		as := append(begun(t, d).State().Accounts, api.Account{}, api.Account{})
		if as[9].Balance != s.a || as[10].Balance != s.b || as[9].Held != s.isHeld {
			t.Errorf("%+v: %+v", s.e, as[9:])
		}
	}
}

// State

// What was handed out stays as it was, and what is done to it does nothing.
func TestStateIsItsOwn(t *testing.T) {
	d := diskWith(t, standing{turn: 1, first: told()}.files(), 5000)
	x := begun(t, d)
	w := standing{turn: 1, first: told()}
	for _, s := range append(changed()[:1], said{step(9, true), failure(api.ErrPending), true}, said{tick(), api.Reply{}, true}, said{submit(auth(30, 9, 10, 3, 99)), api.Reply{ID: 1}, true}, unchanged()[0]) {
		early, other := x.State(), x.State()
		scribble(other)
		if !equal(early, w.state()) {
			t.Error("two States share memory")
		}
		isDone(t, x, "scribbled over", s.e, s.reply)
		if !equal(early, w.state()) {
			t.Errorf("%+v changed a State that was handed out", s.e)
		}
		if s.changes {
			w = w.with(s.e)
		}
		scribble(early)
		has(t, x, "scribbled over", w)
	}
	s := x.State()
	own := clone(s)
	wantNil(t, "Keep", x.Keep())
	if !equal(s, own) {
		t.Error("Keep changed a State that was handed out")
	}
	scribble(s)
	stands(t, x, d, "kept", w.kept())
}

// P19.2 speaks of the Journal: what comes of it by other calls counts too.
func TestTheJournalIsTheEngines(t *testing.T) {
	d := diskWith(t, standing{turn: 1, first: told()}.files(), 5000)
	x := begun(t, d)
	wantNil(t, "Save", x.Journal.Save([]byte("base")))
	if x.Turn() != 2 || string(x.Base()) != "base" {
		t.Errorf("%d, %q", x.Turn(), x.Base())
	}
	wantNil(t, "Append", x.Append([]byte("record"), []byte("other")))
	if rs := x.Journal.Records(); len(rs) != 2 || string(rs[0]) != "record" {
		t.Errorf("%q", rs)
	}
	isDone(t, x, "behind other records", tick(), api.Reply{})
	wantFiles(t, d, "behind other records", content{0: snapshot(2, "base"), 4: framed("record", "other", "\x04")})
	// What is handed out by the promoted methods is the caller's.
	over(x.Base(), 0xee)
	over(x.Records()[0], 0xee)
	if string(x.Base()) != "base" || string(x.Records()[0]) != "record" {
		t.Error("memory is shared")
	}
	d.Arm(0)
	wantErr(t, "the stop", x.Journal.Append(), api.ErrCrash)
	before := x.State()
	isDone(t, x, "broken by another call", step(77, true), failure(api.ErrCrash))
	isDone(t, x, "broken by another call", tick(), failure(api.ErrCrash))
	if !x.Broken() || !equal(before, x.State()) {
		t.Errorf("%t, %+v", x.Broken(), x.State())
	}
}

// W1: a base may be of a state that none comes to by events. Whatever is asked of it, there is an answer.
func TestDoOnOddStates(t *testing.T) {
	odd := told()
	odd.Accounts[0].Balance, odd.Accounts[9].Held, odd.Accounts[10].Held = 1<<50, 1, 0
	odd.Payments = append(odd.Payments, api.Payment{From: 64, To: 64, Auth: 9, Captured: 4, Until: 3}, api.Payment{From: 10, To: 0, Auth: 1 << 40, Until: 2}, api.Payment{From: 9, To: 10, Auth: 7, Captured: 7})
	odd.Sagas = append(odd.Sagas, api.Saga{Request: open(2, 0)}, api.Saga{Request: transfer(9, 63, -5, 8, 0)}, api.Saga{Request: api.Request{Key: 60, Op: api.OpVoid, A: math.MinInt, B: math.MaxInt, Amount: math.MinInt}, Phase: api.Back, Why: 13}, api.Saga{Request: transfer(61, 9, 9, 2, 0)})
	odd.Known = append(odd.Known, odd.Known[0], api.Known{Request: open(70, 1), Reply: api.Reply{Err: 13, ID: math.MinInt}})
	w := standing{turn: 4, first: odd}
	es := []api.Event{tick(), tick(), step(2, true), step(9, false), step(60, true), step(61, true), step(61, true), submit(open(70, 1)), submit(open(1, 0))}
	for op := api.OpOpen; op <= api.OpCharge; op++ {
		for a := range 4 {
			es = append(es, submit(api.Request{Key: 100 + 10*int(op) + a, Op: op, A: a % 3, B: a, Amount: 1 + a, Until: 90}))
		}
	}
	d := diskWith(t, w.files(), 5000)
	x := begun(t, d)
	for _, e := range es {
		after, reply := engine.Do(w.state(), e)
		isDone(t, x, "an odd state", e, reply)
		if !equal(after, w.state()) {
			w = w.with(e)
		}
		has(t, x, "an odd state", w)
	}
	stands(t, begun(t, d), d, "an odd state, opened anew", w)
}
