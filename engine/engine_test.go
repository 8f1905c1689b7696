package engine_test

import (
	"math"
	"slices"
	"testing"

	"hawala/api"
	"hawala/chart"
	"hawala/engine"
	"hawala/ops"
)

const (
	balance = 1 << 50
	amount  = 1 << 40
	ticks   = 1 << 30
)

// anyInts are of all sizes.
var anyInts = []int{math.MinInt, math.MinInt + 1, -balance - 1, -amount, -ticks, -2, -1, 0, 1, 2, 3, 4, 5, 8, 9, 10, 14, 15, 64, ticks - 1, ticks, ticks + 1, amount, amount + 1, balance, math.MaxInt - 1, math.MaxInt}

// base are the house's nine accounts and two clients' of each currency: 9 and 10, 11 and 12, 13 and 14. Of each currency they come to 0.
//
// Its payments, from 9 to 10: 0 has 30 left of 30; 1 is captured, and 20 of it may go back.
//
// Its sagas: that of the key 5 waits for its second leg, which did not agree twice; that of 7 is ready; that of 8 goes back. So 9 has 100 of which 30 are held, 10 has 60 of which 7 are held, 11 has 50 of which 4 are held, and 13 has 9000 of which 150 are held.
//
// It knows the keys 4 to 8, of which 4 and 6 were told; 6 came to an error.
func base() api.State {
	return api.State{
		Accounts: []api.Account{
			{Cur: 0, Balance: -160}, {Cur: 0}, {Cur: 0},
			{Cur: 1, Balance: -50}, {Cur: 1}, {Cur: 1},
			{Cur: 2, Balance: -9000}, {Cur: 2}, {Cur: 2},
			{Cur: 0, Balance: 100, Held: 30}, {Cur: 0, Balance: 60, Held: 7},
			{Cur: 1, Balance: 50, Held: 4}, {Cur: 1},
			{Cur: 2, Balance: 9000, Held: 150}, {Cur: 2},
		},
		Payments: []api.Payment{
			{From: 9, To: 10, Auth: 30, Until: 100},
			{From: 9, To: 10, Auth: 20, Captured: 20, Until: 200, Stage: api.Closed},
		},
		Sagas: []api.Saga{
			{Request: pending(), Leg: 1, Tries: 2},
			{Request: ready(), Leg: 1},
			{Request: turned(), Phase: api.Back, Leg: 2, Tries: 4, Why: api.ErrLeg},
		},
		Known: []api.Known{
			{Request: opened(), Reply: api.Reply{ID: 11}, Told: true},
			{Request: pending()},
			{Request: refused(), Reply: api.Reply{Err: api.ErrInsufficient}, Told: true},
			{Request: ready()},
			{Request: turned()},
		},
		Now: 20,
	}
}

// The requests that base knows.

func opened() api.Request { return api.Request{Key: 4, Op: api.OpOpen, A: 1} }

func pending() api.Request {
	return api.Request{Key: 5, Op: api.OpTransfer, A: 10, B: 9, Amount: 7, Legs: 2}
}

func refused() api.Request {
	return api.Request{Key: 6, Op: api.OpDeposit, A: 9, Amount: 3, Until: 8}
}

func ready() api.Request {
	return api.Request{Key: 7, Op: api.OpTransfer, A: 11, B: 12, Amount: 4, Legs: 1}
}

func turned() api.Request {
	return api.Request{Key: 8, Op: api.OpTransfer, A: 13, B: 9, Amount: 150, Legs: 3, Until: 6}
}

// clone is a state of its own.
func clone(s api.State) api.State {
	s.Accounts = slices.Clone(s.Accounts)
	s.Payments = slices.Clone(s.Payments)
	s.Sagas = slices.Clone(s.Sagas)
	s.Known = slices.Clone(s.Known)
	return s
}

func equal(s, u api.State) bool {
	return slices.Equal(s.Accounts, u.Accounts) && slices.Equal(s.Payments, u.Payments) &&
		slices.Equal(s.Sagas, u.Sagas) && slices.Equal(s.Known, u.Known) && s.Now == u.Now
}

// moved is a state with what pairs (an account, an amount) say added to the Balances.
func moved(s api.State, ns ...int) api.State {
	s = clone(s)
	for k := 0; k+1 < len(ns); k += 2 {
		s.Accounts[ns[k]].Balance += ns[k+1]
	}
	return s
}

// held is a state with n added to a Held.
func held(s api.State, k, n int) api.State {
	s = clone(s)
	s.Accounts[k].Held += n
	return s
}

// pays is a state that has another payment at an index, or one more.
func pays(s api.State, k int, p api.Payment) api.State {
	s = clone(s)
	if k == len(s.Payments) {
		s.Payments = append(s.Payments, p)
	}
	s.Payments[k] = p
	return s
}

// told is a state that knows one more request, with its reply.
func told(s api.State, r api.Request, reply api.Reply) api.State {
	s = clone(s)
	s.Known = append(s.Known, api.Known{Request: r, Reply: reply, Told: true})
	return s
}

// goes is a state in which one more request goes on, as a saga; what it needs is held.
func goes(s api.State, g api.Saga) api.State {
	s = held(s, g.Request.A, g.Request.Amount)
	s.Sagas = append(s.Sagas, g)
	s.Known = append(s.Known, api.Known{Request: g.Request})
	return s
}

// many is a state that knows so many keys: those that it did not know are from 1000 on.
func many(s api.State, n int) api.State {
	s = clone(s)
	for k := len(s.Known); k < n; k++ {
		s.Known = append(s.Known, api.Known{Request: api.Request{Key: 1000 + k, A: 2}, Reply: api.Reply{ID: k}, Told: true})
	}
	return s
}

// crowd is a state that has so many sagas: those that it did not have are of the keys from 2000 on, and each holds 1 of 13.
func crowd(s api.State, n int) api.State {
	for k := len(s.Sagas); k < n; k++ {
		s = goes(s, api.Saga{Request: api.Request{Key: 2000 + k, Op: api.OpTransfer, A: 13, B: 14, Amount: 1, Legs: 4}, Leg: k % 4})
	}
	return s
}

// The marks stand in the room behind the slices that are given: nothing may write there.
var (
	markAccount = api.Account{Cur: 71, Balance: 72, Held: 73}
	markPayment = api.Payment{From: 81, To: 82, Auth: 83, Until: 84}
	markSaga    = api.Saga{Request: api.Request{Key: 90}, Leg: 91, Tries: 92}
	markKnown   = api.Known{Request: api.Request{Key: 94}, Reply: api.Reply{ID: 95}}
	markEvent   = api.Event{What: api.Step, Key: 5, OK: true}
)

// roomy is a state with room behind its slices.
func roomy(s api.State) api.State {
	return api.State{
		Accounts: room(s.Accounts, markAccount),
		Payments: room(s.Payments, markPayment),
		Sagas:    room(s.Sagas, markSaga),
		Known:    room(s.Known, markKnown),
		Now:      s.Now,
	}
}

func room[E any](es []E, mark E) []E {
	return append(slices.Clone(es), mark, mark)[:len(es)]
}

// isLeft tells whether a slice with room is as it was made of another one.
func isLeft[E comparable](given, es []E, mark E) bool {
	return slices.Equal(given[:len(given)+2], append(slices.Clone(es), mark, mark))
}

// isUntouched tells whether a roomy state is as it was made of another one.
func isUntouched(given, s api.State) bool {
	return isLeft(given.Accounts, s.Accounts, markAccount) && isLeft(given.Payments, s.Payments, markPayment) &&
		isLeft(given.Sagas, s.Sagas, markSaga) && isLeft(given.Known, s.Known, markKnown) && given.Now == s.Now
}

// scribble writes over all that a state has, and over the room behind it.
func scribble(s api.State) {
	over(s.Accounts, api.Account{Cur: 61, Balance: 62, Held: 63})
	over(s.Payments, api.Payment{From: 64, Auth: 65, Until: 66})
	over(s.Sagas, api.Saga{Leg: 67})
	over(s.Known, api.Known{Reply: api.Reply{ID: 68}})
}

func over[E any](es []E, e E) {
	es = es[:cap(es)]
	for k := range es {
		es[k] = e
	}
}

// answer is what Do returns.
type answer struct {
	s     api.State
	reply api.Reply
}

// ask calls Do, twice: the answers are the same, what is given is not touched, and the one answer has nothing of the other's, or of what was given. Nor does it matter what stands in those fields of the event that are not asked for.
func ask(t *testing.T, s api.State, e api.Event) answer {
	t.Helper()
	given := roomy(s)
	after, reply := engine.Do(given, e)
	other, reply2 := engine.Do(given, e)
	if reply != reply2 || !equal(after, other) {
		t.Errorf("%+v: %+v, and then %+v", e, after, other)
	}
	own := clone(after)
	// What is unchanged may be what was given itself.
	if !equal(after, s) {
		scribble(other)
	}
	if !equal(after, own) || !isUntouched(given, s) {
		t.Errorf("%+v: what is given is changed, or memory is shared", e)
	}
	third, reply3 := engine.Do(given, noisy(e))
	if reply3 != reply || !equal(third, own) {
		t.Errorf("%+v: %+v, not %+v as of %+v", noisy(e), reply3, reply, e)
	}
	return answer{own, reply}
}

// noisy is an event that has more in it than it is asked for.
func noisy(e api.Event) api.Event {
	r := api.Request{Key: 77, Op: api.OpDeposit, A: 9, Amount: 8}
	switch e.What {
	case api.Submit:
		e.Key, e.OK = 5, !e.OK
	case api.Step:
		e.Request = r
	default:
		return api.Event{What: e.What, Request: r, Key: 7, OK: true}
	}
	return e
}

// stays asks for a reply with which nothing is changed.
func stays(t *testing.T, s api.State, e api.Event, want api.Reply) {
	t.Helper()
	if a := ask(t, s, e); a.reply != want || !equal(a.s, s) {
		t.Errorf("%+v: %+v, not %+v\n%+v, not\n%+v", e, a.reply, want, a.s, s)
	}
}

// does asks for a reply, and for the state behind it.
func does(t *testing.T, s api.State, e api.Event, reply api.Reply, want api.State) api.State {
	t.Helper()
	a := ask(t, s, e)
	if a.reply != reply || !equal(a.s, want) {
		t.Errorf("%+v: %+v, not %+v\n%+v, not\n%+v", e, a.reply, reply, a.s, want)
	}
	return a.s
}

func failure(err api.Errno) api.Reply { return api.Reply{Err: err} }

// The events.

func submit(r api.Request) api.Event { return api.Event{Request: r} }

func step(key int, ok bool) api.Event { return api.Event{What: api.Step, Key: key, OK: ok} }

func tick() api.Event { return api.Event{What: api.Tick} }

// The requests.

func open(cur int) api.Request { return api.Request{Key: 31, Op: api.OpOpen, A: cur} }

func deposit(a, n int) api.Request {
	return api.Request{Key: 32, Op: api.OpDeposit, A: a, Amount: n}
}

func transfer(a, b, n int) api.Request {
	return api.Request{Key: 33, Op: api.OpTransfer, A: a, B: b, Amount: n}
}

func auth(a, b, n, until int) api.Request {
	return api.Request{Key: 34, Op: api.OpAuth, A: a, B: b, Amount: n, Until: until}
}

func capture(k, n int) api.Request {
	return api.Request{Key: 35, Op: api.OpCapture, A: k, Amount: n}
}

func void(k int) api.Request { return api.Request{Key: 36, Op: api.OpVoid, A: k} }

func refund(k, n int) api.Request {
	return api.Request{Key: 37, Op: api.OpRefund, A: k, Amount: n}
}

func charge(k, n int) api.Request {
	return api.Request{Key: 38, Op: api.OpCharge, A: k, Amount: n}
}

// long is a transfer to which so many legs must agree.
func long(a, b, n, legs int) api.Request {
	return api.Request{Key: 39, Op: api.OpTransfer, A: a, B: b, Amount: n, Legs: legs}
}

// asks are one request of each Op that base does at once.
func asks() []api.Request {
	return []api.Request{open(1), deposit(9, 5), transfer(9, 10, 5), auth(9, 10, 5, 21), capture(0, 5), void(0), refund(1, 5), charge(1, 5)}
}

// states are some that have many keys, sagas, or nothing.
func states() []api.State {
	return []api.State{
		base(), ops.New(), many(base(), 255), many(base(), 256), many(base(), 257),
		crowd(base(), 15), crowd(base(), 16), crowd(base(), 17), many(crowd(base(), 16), 256),
	}
}

// events are some of each kind, of which base does most.
func events() []api.Event {
	es := []api.Event{tick(), step(9, true), {What: 3}, submit(opened()), submit(pending()), submit(refused()), submit(open(-1)), submit(transfer(9, 10, 71)), submit(void(7)), submit(long(9, 10, 5, 2)), submit(long(9, 10, 71, 2))}
	for _, r := range asks() {
		es = append(es, submit(r))
	}
	for _, key := range []int{5, 7, 8} {
		es = append(es, step(key, true), step(key, false))
	}
	return es
}

// P17.1

func TestFindAndWaits(t *testing.T) {
	of := func(keys ...int) []api.Saga {
		gs := []api.Saga{}
		for k, key := range keys {
			gs = append(gs, api.Saga{Request: api.Request{Key: key, A: 9 + k, Legs: 1}, Phase: api.Phase(k % 3)})
		}
		return gs
	}
	for _, c := range [][]int{nil, {}, {3}, {0}, {-1}, {3, 1, 2}, {5, 4, 3, 2, 1, 0}, {3, 3}, {1, 3, 2, 3, 3, 1}, {math.MaxInt, math.MinInt, 0, math.MaxInt}} {
		given := of(c...)
		s := api.State{Sagas: room(given, markSaga)}
		if got := engine.Waits(s); !slices.Equal(got, c) {
			t.Errorf("%v: %v", c, got)
		}
		for _, key := range append([]int{90, 6, -5}, append(c, anyInts...)...) {
			if got := engine.Find(s, key); got != slices.Index(c, key) {
				t.Errorf("%v, %d: %d", c, key, got)
			}
		}
		if !isLeft(s.Sagas, given, markSaga) {
			t.Errorf("%v: what is given is changed", c)
		}
	}
}

// Neither asks what is known, or of what phase a saga is.
func TestFindAndWaitsOfSagasAlone(t *testing.T) {
	s := base()
	for k, key := range []int{5, 7, 8} {
		if got := engine.Find(s, key); got != k {
			t.Errorf("%d: %d", key, got)
		}
	}
	for _, key := range []int{4, 6, 0, 1, 2, 9, -1} {
		if got := engine.Find(s, key); got != -1 {
			t.Errorf("%d: %d", key, got)
		}
	}
	if got := engine.Waits(s); !slices.Equal(got, []int{5, 7, 8}) {
		t.Error(got)
	}
	for _, s := range []api.State{{}, ops.New(), {Known: base().Known, Accounts: base().Accounts}} {
		if engine.Find(s, 5) != -1 || len(engine.Waits(s)) > 0 {
			t.Errorf("%+v", s)
		}
	}
}

// Two lists of keys share nothing.
func TestWaitsTwice(t *testing.T) {
	s := base()
	first, second := engine.Waits(s), engine.Waits(s)
	over(second, 99)
	if !slices.Equal(first, []int{5, 7, 8}) || !equal(s, base()) {
		t.Errorf("%v: memory is shared", first)
	}
}

// P17.2: a What that is none

func TestOtherWhats(t *testing.T) {
	for _, s := range append(states(), api.State{}) {
		for _, what := range []api.What{-1, -2, 3, 4, 7, 255, 256, 257, 1 << 32, 1<<32 + 1, math.MinInt, math.MinInt + 1, math.MaxInt} {
			stays(t, s, api.Event{What: what}, failure(api.ErrBad))
			for _, e := range events() {
				e.What = what
				stays(t, s, e, failure(api.ErrBad))
			}
		}
	}
	if api.Submit != 0 || api.Step != 1 || api.Tick != 2 {
		t.Error(api.Submit, api.Step, api.Tick)
	}
}

// P17.2: ticks

// at is a state at another tick.
func at(s api.State, now int) api.State {
	s = clone(s)
	s.Now = now
	return s
}

func TestTickAroundTheTimeOfAPayment(t *testing.T) {
	closed := pays(held(base(), 9, -30), 0, api.Payment{From: 9, To: 10, Auth: 30, Until: 100, Stage: api.Closed})
	for _, now := range []int{0, 1, 20, 97, 98} {
		does(t, at(base(), now), tick(), api.Reply{}, at(base(), now+1))
	}
	for _, now := range []int{99, 100, 101, 198, 199, 200, 500, ticks - 1} {
		does(t, at(base(), now), tick(), api.Reply{}, at(closed, now+1))
		does(t, at(closed, now), tick(), api.Reply{}, at(closed, now+1))
	}
	partly := pays(moved(held(base(), 9, -10), 9, -10, 10, 10), 0, api.Payment{From: 9, To: 10, Auth: 30, Captured: 10, Until: 50})
	does(t, at(partly, 48), tick(), api.Reply{}, at(partly, 49))
	done := pays(held(partly, 9, -20), 0, api.Payment{From: 9, To: 10, Auth: 30, Captured: 10, Until: 50, Stage: api.Closed})
	does(t, at(partly, 49), tick(), api.Reply{}, at(done, 50))
}

func TestTicksOfSeveralPayments(t *testing.T) {
	s, replies := engine.Run(base(), []api.Event{submit(auth(9, 10, 5, 22)), submit(api.Request{Key: 40, Op: api.OpAuth, A: 9, B: 12, Amount: 6, Until: 21}), submit(api.Request{Key: 41, Op: api.OpAuth, A: 11, B: 9, Amount: 7, Until: 22})})
	if !slices.Equal(replies, []api.Reply{{ID: 2}, {ID: 3}, {ID: 4}}) {
		t.Fatal(replies)
	}
	for _, want := range [][2]int{{41, 11}, {35, 11}, {30, 4}, {30, 4}} {
		if s.Accounts[9].Held != want[0] || s.Accounts[11].Held != want[1] {
			t.Errorf("%d: %+v, not %v", s.Now, s.Accounts, want)
		}
		s = ask(t, s, tick()).s
	}
}

// At the last tick nothing goes by any more, also where a payment's time is over.
func TestTickAtTheLastOne(t *testing.T) {
	for _, s := range append(states(), api.State{}) {
		stays(t, at(s, ticks), tick(), api.Reply{})
	}
	s := pays(base(), 0, api.Payment{From: 9, To: 10, Auth: 30, Until: ticks})
	s = does(t, at(s, ticks-2), tick(), api.Reply{}, at(s, ticks-1))
	last := held(pays(at(s, ticks), 0, api.Payment{From: 9, To: 10, Auth: 30, Until: ticks, Stage: api.Closed}), 9, -30)
	stays(t, does(t, s, tick(), api.Reply{}, last), tick(), api.Reply{})
	if api.MaxTicks != ticks {
		t.Error(api.MaxTicks)
	}
}

// Sagas and keys have nothing to do with ticks.
func TestTickLeavesSagasAndKeys(t *testing.T) {
	for _, s := range states() {
		for _, now := range []int{0, 98, 99, 100, ticks - 1, ticks} {
			a := ask(t, at(s, now), tick())
			if !slices.Equal(a.s.Sagas, s.Sagas) || !slices.Equal(a.s.Known, s.Known) || a.s.Now != min(now+1, ticks) || a.reply != (api.Reply{}) {
				t.Errorf("%d: %+v", now, a)
			}
		}
	}
}

// W6: two results of one state, each with one thing more, know nothing of each other.
func TestTwoResultsOfOneState(t *testing.T) {
	given := roomy(base())
	for _, e := range events() {
		first, _ := engine.Do(given, e)
		want := clone(first)
		for _, f := range events() {
			f.Request.Key += 100
			second, _ := engine.Do(given, f)
			if !equal(second, base()) {
				scribble(second)
			}
			f.Request.Key++
			third, _ := engine.Do(first, f)
			if !equal(third, want) {
				scribble(third)
			}
		}
		if !equal(first, want) || !isUntouched(given, base()) {
			t.Errorf("%+v: memory is shared", e)
		}
	}
}

// W1: states that have nothing.
func TestEmptyState(t *testing.T) {
	s := api.State{}
	does(t, s, submit(open(1)), api.Reply{}, told(api.State{Accounts: []api.Account{{Cur: 1}}}, open(1), api.Reply{}))
	for _, r := range append(asks()[1:], long(9, 10, 5, 4)) {
		does(t, s, submit(r), failure(api.ErrUnknown), told(s, r, failure(api.ErrUnknown)))
	}
	stays(t, s, submit(api.Request{Key: -1}), failure(api.ErrBad))
	does(t, s, tick(), api.Reply{}, at(s, 1))
	for _, key := range anyInts {
		stays(t, s, step(key, true), failure(api.ErrUnknown))
		stays(t, s, step(key, false), failure(api.ErrUnknown))
	}
}

// sums asks that the balances of each currency come to 0.
func sums(t *testing.T, s api.State) {
	t.Helper()
	if chart.Sums(s.Accounts) != [3]int{} || !chart.Right(s.Accounts) {
		t.Errorf("%v of %+v", chart.Sums(s.Accounts), s)
	}
}

// The chapter's example.
func TestExample(t *testing.T) {
	rs := []api.Request{{Key: 1}, {Key: 2}, {Key: 3, Op: api.OpDeposit, A: 9, Amount: 50}}
	s, _ := engine.Run(ops.New(), []api.Event{submit(rs[0]), submit(rs[1]), submit(rs[2])})
	r := long(9, 10, 30, 1)
	s = does(t, s, submit(r), failure(api.ErrPending), goes(s, api.Saga{Request: r}))
	agreed := clone(s)
	agreed.Sagas[0].Leg = 1
	s = does(t, s, step(39, true), failure(api.ErrPending), agreed)
	a := ask(t, s, step(39, false))
	if a.reply != (api.Reply{}) || len(a.s.Sagas) > 0 || a.s.Accounts[9] != (api.Account{Balance: 20}) || a.s.Accounts[10] != (api.Account{Balance: 30}) {
		t.Errorf("%+v", a)
	}
	stays(t, a.s, submit(r), api.Reply{})
}
