package codec_test

import (
	"bytes"
	"math"
	"slices"
	"testing"

	"hawala/api"
	"hawala/chart"
	"hawala/codec"
	"hawala/engine"
)

// base is a state with several of every kind of element, all of which may be.
func base() api.State {
	return api.State{
		Accounts: []api.Account{
			{Cur: 0, Balance: -160}, {Cur: 0}, {Cur: 0},
			{Cur: 1, Balance: -50}, {Cur: 1, Balance: balance}, {Cur: 1},
			{Cur: 2, Balance: -balance}, {Cur: 2}, {Cur: 2},
			{Cur: 0, Balance: 100, Held: 30}, {Cur: 0, Balance: 60, Held: 60}, {Cur: 1},
		},
		Payments: []api.Payment{
			{From: 9, To: 10, Auth: 30, Until: 100},
			{From: 10, To: 9, Auth: 90, Captured: 80, Refunded: 30, Charged: 20, Until: 200, Stage: api.Closed},
		},
		Sagas: []api.Saga{
			{Request: long(5, 2), Leg: 1, Tries: 2},
			{Request: long(7, 3), Leg: 3},
			{Request: long(8, 4), Phase: api.Back, Leg: 2, Tries: 4, Why: api.ErrLeg},
		},
		Known: []api.Known{
			{Request: api.Request{Key: 4, A: 1}, Reply: api.Reply{ID: 11}, Told: true},
			{Request: long(5, 2)},
			{Request: api.Request{Key: 6, Op: api.OpDeposit, A: 9, Amount: 3, Until: 8}, Reply: api.Reply{Err: api.ErrInsufficient}, Told: true},
		},
		Now: 20,
	}
}

// long is a transfer with legs.
func long(key, legs int) api.Request {
	return api.Request{Key: key, Op: api.OpTransfer, A: 10, B: 9, Amount: 7, Legs: legs}
}

func equal(s, u api.State) bool {
	return slices.Equal(s.Accounts, u.Accounts) && slices.Equal(s.Payments, u.Payments) &&
		slices.Equal(s.Sagas, u.Sagas) && slices.Equal(s.Known, u.Known) && s.Now == u.Now
}

func clone(s api.State) api.State {
	s.Accounts = slices.Clone(s.Accounts)
	s.Payments = slices.Clone(s.Payments)
	s.Sagas = slices.Clone(s.Sagas)
	s.Known = slices.Clone(s.Known)
	return s
}

// with is base with a change.
func with(change func(s *api.State)) api.State {
	s := base()
	change(&s)
	return s
}

// repeated are n elements: those that are given, again and again.
func repeated[E any](n int, es ...E) []E {
	return slices.Repeat(es, n/len(es)+1)[:n]
}

// accounts are n of which all may be, if there are from 9 to 64.
func accounts(n int) []api.Account {
	as := append(chart.New(), repeated(max(n-9, 0), api.Account{Cur: 1, Balance: 70, Held: 5}, api.Account{Cur: 2, Balance: balance, Held: balance})...)
	return as[:n]
}

// The marks stand in the room behind the lists that are given: nothing may read or write there.
var (
	markAccount = api.Account{Cur: 71, Balance: 72, Held: 73}
	markPayment = api.Payment{From: 81, To: 82, Auth: 83, Until: 84}
	markSaga    = api.Saga{Request: api.Request{Key: 90}, Leg: 91, Tries: 92}
	markKnown   = api.Known{Request: api.Request{Key: 94}, Reply: api.Reply{ID: 95}}
)

func roomy(s api.State) api.State {
	return api.State{
		Accounts: room(s.Accounts, markAccount),
		Payments: room(s.Payments, markPayment),
		Sagas:    room(s.Sagas, markSaga),
		Known:    room(s.Known, markKnown),
		Now:      s.Now,
	}
}

func room[E any](es []E, mark E) []E { return append(slices.Clone(es), mark, mark)[:len(es)] }

func isLeft[E comparable](given, es []E, mark E) bool {
	return slices.Equal(given[:len(given)+2], append(slices.Clone(es), mark, mark))
}

func isUntouched(given, s api.State) bool {
	return isLeft(given.Accounts, s.Accounts, markAccount) && isLeft(given.Payments, s.Payments, markPayment) &&
		isLeft(given.Sagas, s.Sagas, markSaga) && isLeft(given.Known, s.Known, markKnown) && given.Now == s.Now
}

// scribble writes over all that a state has, and over the room behind it.
func scribble(s api.State) {
	over(s.Accounts, markAccount)
	over(s.Payments, markPayment)
	over(s.Sagas, markSaga)
	over(s.Known, markKnown)
}

// ofState asks for a state's bytes, twice: each time they are those of its numbers, and their own, and the state is not touched.
func ofState(t *testing.T, s api.State) []byte {
	t.Helper()
	given := roomy(s)
	b := codec.State(given)
	over(codec.State(given), 0xee)
	if !isUntouched(given, s) {
		t.Errorf("the state is changed: %+v, not %+v", given, s)
	}
	scribble(given)
	if want := inRow(stateNumbers(s)...); !bytes.Equal(b, want) {
		t.Errorf("%+v: %x, not %x", s, b, want)
	}
	return b
}

// askState calls ReadState, twice: the answers are the same, each has its own lists, the bytes are not touched, and the zero State stands beside false.
func askState(t *testing.T, b []byte) (api.State, bool) {
	t.Helper()
	given := roomyBytes(b)
	s, ok := codec.ReadState(given)
	own := clone(s)
	other, ok2 := codec.ReadState(given)
	if !equal(s, other) || ok != ok2 || !ok && !equal(s, api.State{}) {
		t.Errorf("%x: %+v, %t, and then %+v, %t", b, s, ok, other, ok2)
	}
	if !isLeftBytes(given, b) {
		t.Errorf("%x is changed to %x", b, given)
	}
	scribble(other)
	over(given, 0xee)
	if !equal(s, own) {
		t.Errorf("%x: memory is shared", b)
	}
	return s, ok
}

// reads asks that a state be read as it was, and that none be read of its bytes with one more behind, or without the last one.
func reads(t *testing.T, s api.State) {
	t.Helper()
	b := ofState(t, s)
	if got, ok := askState(t, b); !equal(got, s) || !ok {
		t.Errorf("%x: %+v, %t, not %+v", b, got, ok, s)
	}
	readsNone(t, append(b, 0))
	readsNone(t, b[:len(b)-1])
}

// refuses asks that a state not be read, though it has bytes.
func refuses(t *testing.T, s api.State) {
	t.Helper()
	readsNone(t, ofState(t, s))
}

func readsNone(t *testing.T, b []byte) {
	t.Helper()
	if s, ok := askState(t, b); ok {
		t.Errorf("%x is read as %+v", b, s)
	}
}

// P18.2: State

func TestStateByHand(t *testing.T) {
	r := api.Request{Key: 3, Op: api.OpTransfer, A: 9, B: 10, Amount: 5, Legs: 1, Until: 64}
	for _, c := range []struct {
		s    api.State
		code string
	}{
		{api.State{}, "\x00\x00\x00\x00\x00"},
		{api.State{Accounts: []api.Account{}, Payments: []api.Payment{}, Sagas: []api.Saga{}, Known: []api.Known{}}, "\x00\x00\x00\x00\x00"},
		{api.State{Now: 64}, "\x80\x01\x00\x00\x00\x00"},
		{api.State{Now: -1}, "\x01\x00\x00\x00\x00"},
		{api.State{Accounts: []api.Account{{Cur: 1, Balance: -2, Held: 3}}}, "\x00\x02\x02\x03\x06\x00\x00\x00"},
		{api.State{Payments: []api.Payment{{From: 1, To: 2, Auth: 3, Captured: 4, Refunded: 5, Charged: 6, Until: 7, Stage: 8}}}, "\x00\x00\x02\x02\x04\x06\x08\x0a\x0c\x0e\x10\x00\x00"},
		{api.State{Sagas: []api.Saga{{Request: r, Phase: 1, Leg: 2, Tries: 3, Why: 4}}}, "\x00\x00\x00\x02\x06\x04\x12\x14\x0a\x02\x80\x01\x02\x04\x06\x08\x00"},
		{api.State{Known: []api.Known{{Request: r, Reply: api.Reply{Err: 5, ID: 6}, Told: true}}}, "\x00\x00\x00\x00\x02\x06\x04\x12\x14\x0a\x02\x80\x01\x0a\x0c\x02"},
		{api.State{Known: []api.Known{{}, {}}, Now: 6}, "\x0c\x00\x00\x00\x04\x00\x00\x00\x00\x00\x00\x00\x00\x00\x00\x00\x00\x00\x00\x00\x00\x00\x00\x00\x00"},
	} {
		if b := ofState(t, c.s); string(b) != c.code {
			t.Errorf("%+v: %x, not %x", c.s, b, c.code)
		}
	}
}

// Each field has its place, whatever stands in it.
func TestStateOfAnyNumbers(t *testing.T) {
	for _, n := range anyInts {
		ofState(t, with(func(s *api.State) { s.Now = n }))
		for _, turn := range fields() {
			ofState(t, with(func(s *api.State) { turn(s, n) }))
		}
	}
}

// fields are what sets one field of one element each, of the second one of its list.
func fields() []func(s *api.State, n int) {
	return []func(s *api.State, n int){
		func(s *api.State, n int) { s.Accounts[1].Cur = n },
		func(s *api.State, n int) { s.Accounts[1].Balance = n },
		func(s *api.State, n int) { s.Accounts[1].Held = n },
		func(s *api.State, n int) { s.Payments[1].From = n },
		func(s *api.State, n int) { s.Payments[1].To = n },
		func(s *api.State, n int) { s.Payments[1].Auth = n },
		func(s *api.State, n int) { s.Payments[1].Captured = n },
		func(s *api.State, n int) { s.Payments[1].Refunded = n },
		func(s *api.State, n int) { s.Payments[1].Charged = n },
		func(s *api.State, n int) { s.Payments[1].Until = n },
		func(s *api.State, n int) { s.Payments[1].Stage = api.Stage(n) },
		func(s *api.State, n int) { s.Sagas[1].Phase = api.Phase(n) },
		func(s *api.State, n int) { s.Sagas[1].Leg = n },
		func(s *api.State, n int) { s.Sagas[1].Tries = n },
		func(s *api.State, n int) { s.Sagas[1].Why = api.Errno(n) },
		func(s *api.State, n int) { s.Sagas[1].Request.Key = n },
		func(s *api.State, n int) { s.Sagas[1].Request.Op = api.Op(n) },
		func(s *api.State, n int) { s.Sagas[1].Request.A = n },
		func(s *api.State, n int) { s.Sagas[1].Request.B = n },
		func(s *api.State, n int) { s.Sagas[1].Request.Amount = n },
		func(s *api.State, n int) { s.Sagas[1].Request.Legs = n },
		func(s *api.State, n int) { s.Sagas[1].Request.Until = n },
		func(s *api.State, n int) { s.Known[1].Request.Key = n },
		func(s *api.State, n int) { s.Known[1].Request.Op = api.Op(n) },
		func(s *api.State, n int) { s.Known[1].Request.A = n },
		func(s *api.State, n int) { s.Known[1].Request.B = n },
		func(s *api.State, n int) { s.Known[1].Request.Amount = n },
		func(s *api.State, n int) { s.Known[1].Request.Legs = n },
		func(s *api.State, n int) { s.Known[1].Request.Until = n },
		func(s *api.State, n int) { s.Known[1].Reply.Err = api.Errno(n) },
		func(s *api.State, n int) { s.Known[1].Reply.ID = n },
		func(s *api.State, n int) { s.Known[1].Told = n%2 == 0 },
	}
}

// No limit holds for what is encoded.
func TestStateOfManyElements(t *testing.T) {
	for _, n := range []int{0, 1, 2, 16, 17, 63, 64, 65, 256, 257, 9000} {
		s := api.State{
			Accounts: repeated(n, base().Accounts...),
			Payments: repeated(n, base().Payments...),
			Sagas:    repeated(n, base().Sagas...),
			Known:    repeated(n, base().Known...),
		}
		ofState(t, s)
		ofState(t, api.State{Accounts: s.Accounts, Sagas: s.Sagas, Now: n})
		ofState(t, api.State{Payments: s.Payments, Known: s.Known, Now: n})
	}
}

// P18.2 and P18.3: what is read is what was encoded

func TestStatesAreReadBack(t *testing.T) {
	reads(t, base())
	reads(t, api.State{Accounts: chart.New()})
	reads(t, with(func(s *api.State) { s.Payments = nil }))
	reads(t, with(func(s *api.State) { s.Sagas = []api.Saga{} }))
	reads(t, with(func(s *api.State) { s.Known = nil }))
	reads(t, with(func(s *api.State) { s.Payments, s.Sagas, s.Known = s.Payments[:1], s.Sagas[:1], s.Known[:1] }))
	for _, r := range requests() {
		reads(t, with(func(s *api.State) { s.Known[1].Request = r }))
		reads(t, with(func(s *api.State) { s.Sagas[0] = api.Saga{Request: r} }))
		reads(t, with(func(s *api.State) { s.Sagas[2].Request, s.Sagas[2].Leg = r, r.Legs }))
	}
}

// What is wrong with a state as a whole is not asked here.
func TestStatesThatCheckWouldFaultAreReadBack(t *testing.T) {
	reads(t, with(func(s *api.State) { s.Known = append(s.Known, s.Known...) }))
	reads(t, with(func(s *api.State) { s.Sagas = append(s.Sagas, s.Sagas[0], s.Sagas[0]) }))
	reads(t, with(func(s *api.State) { s.Known = nil }))
	reads(t, with(func(s *api.State) { s.Payments[0].To = s.Payments[0].From }))
	reads(t, with(func(s *api.State) { s.Payments[0].From, s.Payments[0].To = 0, 64 }))
	reads(t, with(func(s *api.State) { s.Sagas[0].Request = plain(api.OpDeposit); s.Sagas[0].Leg, s.Sagas[0].Tries = 0, 0 }))
	reads(t, with(func(s *api.State) { s.Known[1].Reply = api.Reply{Err: 13, ID: 8} }))
	reads(t, with(func(s *api.State) { s.Accounts[9].Held = 0 }))
}

// The greatest state that can be read, of the longest numbers.
func TestGreatestState(t *testing.T) {
	r := api.Request{Key: ticks - 1, Op: api.OpVoid, A: math.MinInt, B: math.MaxInt, Amount: math.MinInt, Until: ticks}
	l := api.Request{Key: ticks - 1, Op: api.OpTransfer, A: math.MinInt, B: math.MaxInt, Amount: amount, Legs: 4, Until: ticks}
	s := api.State{
		Accounts: accounts(64),
		Payments: repeated(64, api.Payment{From: 64, To: 64, Auth: amount, Captured: amount, Refunded: amount - 64, Charged: 64, Until: ticks, Stage: api.Closed}),
		Sagas:    repeated(16, api.Saga{Request: l, Phase: api.Back, Leg: 4, Tries: 4, Why: api.ErrArgument}, api.Saga{Request: l, Leg: 3, Tries: 3}),
		Known:    repeated(256, api.Known{Request: r, Reply: api.Reply{Err: api.ErrArgument, ID: math.MinInt}, Told: true}),
		Now:      ticks,
	}
	reads(t, s)
	refuses(t, api.State{Accounts: s.Accounts, Payments: s.Payments, Sagas: s.Sagas, Known: append(s.Known, s.Known[0]), Now: ticks})
}

func TestExampleIsReadBack(t *testing.T) {
	s := api.State{Accounts: append(chart.New(), api.Account{Balance: 50}, api.Account{})}
	s.Accounts[0].Balance = -50
	reads(t, s)
	r := api.Request{Key: 1, Op: api.OpTransfer, A: 9, B: 10, Amount: 30, Legs: 1}
	for _, e := range []api.Event{{Request: r}, {What: api.Step, Key: 1, OK: true}, {What: api.Step, Key: 1}} {
		s, _ = engine.Do(s, e)
		reads(t, s)
	}
	if s.Accounts[9].Balance != 20 || s.Accounts[10].Balance != 30 {
		t.Errorf("%+v", s)
	}
}

// All states of histories, and their events, are read back. States that differ have bytes that differ.
func TestHistories(t *testing.T) {
	d := draw(1)
	states := map[string]api.State{}
	for range 20 {
		s := api.State{Accounts: accounts(14)}
		for range 60 {
			e := d.event(s)
			if b := codec.Event(e); !isReadAs(b, e) {
				t.Errorf("%x is not read as %+v", b, e)
			}
			s, _ = engine.Do(s, e)
			b := ofState(t, s)
			if got, ok := askState(t, b); !ok || !equal(got, s) {
				t.Errorf("%x: %+v, %t, not %+v", b, got, ok, s)
			}
			if before, ok := states[string(b)]; ok && !equal(before, s) {
				t.Errorf("%x is of %+v, and of %+v", b, before, s)
			}
			states[string(b)] = clone(s)
		}
	}
	if len(states) < 600 {
		t.Errorf("%d states: too few", len(states))
	}
}

func isReadAs(b []byte, e api.Event) bool {
	got, ok := codec.ReadEvent(b)
	return ok && got == e
}

// event is one that mostly does something to a state.
func (d *draw) event(s api.State) api.Event {
	switch waits := engine.Waits(s); {
	case d.below(10) == 0:
		return api.Event{What: api.Tick}
	case len(waits) > 0 && d.below(2) == 0:
		return api.Event{What: api.Step, Key: waits[d.below(len(waits))], OK: d.below(3) > 0}
	}
	r := api.Request{Key: d.below(100), Op: api.Op(d.below(8)), A: d.of(9, 10, 11), B: d.of(10, 12, 13), Amount: 1 + d.below(9), Until: s.Now + d.below(4)}
	switch r.Op {
	case api.OpOpen:
		r.A = d.below(3)
	case api.OpTransfer:
		r.Legs = d.below(5)
	case api.OpCapture, api.OpVoid, api.OpRefund, api.OpCharge:
		r.A = d.below(len(s.Payments) + 1)
	}
	return api.Event{Request: r}
}
