package bank_test

import (
	"math"
	"slices"
	"testing"

	"hawala/api"
	"hawala/bank"
	"hawala/chart"
	"hawala/ops"
)

const (
	balance = 1 << 50
	amount  = 1 << 40
	ticks   = 1 << 30
)

// anyInts are of all sizes.
var anyInts = []int{math.MinInt, math.MinInt + 1, -balance - 1, -amount, -ticks, -2, -1, 0, 1, 2, 3, 4, 5, 8, 9, 10, 14, 15, 64, ticks - 1, ticks, ticks + 1, amount, amount + 1, balance, math.MaxInt - 1, math.MaxInt}

// base are the house's nine accounts and two clients' of each currency: 9 and 10, 11 and 12, 13 and 14. Of each currency they come to 0.
//
// Its payments, from 9 to 10: 0 has 30 left of 30; 1 is captured, and 20 of it may go back. A saga of the key 5, which has no reply, holds 7 of 10. So 9 has 100 of which 30 are held, and 10 has 60 of which 7 are held.
//
// It knows the keys 4, 5 and 6; 6 came to an error.
func base() api.State {
	return api.State{
		Accounts: []api.Account{
			{Cur: 0, Balance: -160}, {Cur: 0}, {Cur: 0},
			{Cur: 1, Balance: -50}, {Cur: 1}, {Cur: 1},
			{Cur: 2, Balance: -9000}, {Cur: 2}, {Cur: 2},
			{Cur: 0, Balance: 100, Held: 30}, {Cur: 0, Balance: 60, Held: 7},
			{Cur: 1, Balance: 50}, {Cur: 1},
			{Cur: 2, Balance: 9000}, {Cur: 2},
		},
		Payments: []api.Payment{
			{From: 9, To: 10, Auth: 30, Until: 100},
			{From: 9, To: 10, Auth: 20, Captured: 20, Until: 200, Stage: api.Closed},
		},
		Sagas: []api.Saga{{Request: pending(), Leg: 1, Tries: 2}},
		Known: []api.Known{
			{Request: opened(), Reply: api.Reply{ID: 11}, Told: true},
			{Request: pending()},
			{Request: refused(), Reply: api.Reply{Err: api.ErrInsufficient}, Told: true},
		},
		Now: 20,
	}
}

// The requests that base knows.

func opened() api.Request { return api.Request{Key: 4, Op: api.OpOpen, A: 1} }

func pending() api.Request {
	return api.Request{Key: 5, Op: api.OpTransfer, A: 10, B: 9, Amount: 7, Legs: 2}
}

func refused() api.Request {
	return api.Request{Key: 6, Op: api.OpDeposit, A: 9, Amount: 3, Until: 8}
}

// clone is a state of its own.
func clone(s api.State) api.State {
	s.Accounts = slices.Clone(s.Accounts)
	s.Payments = slices.Clone(s.Payments)
	s.Sagas = slices.Clone(s.Sagas)
	s.Known = slices.Clone(s.Known)
	return s
}

func equal(s, u api.State) bool {
	return slices.Equal(s.Accounts, u.Accounts) && slices.Equal(s.Payments, u.Payments) &&
		slices.Equal(s.Sagas, u.Sagas) && slices.Equal(s.Known, u.Known) && s.Now == u.Now
}

// moved is a state with what pairs (an account, an amount) say added to the Balances.
func moved(s api.State, ns ...int) api.State {
	s = clone(s)
	for k := 0; k+1 < len(ns); k += 2 {
		s.Accounts[ns[k]].Balance += ns[k+1]
	}
	return s
}

// held is a state with n added to a Held.
func held(s api.State, k, n int) api.State {
	s = clone(s)
	s.Accounts[k].Held += n
	return s
}

// pays is a state that has another payment at an index, or one more.
func pays(s api.State, k int, p api.Payment) api.State {
	s = clone(s)
	if k == len(s.Payments) {
		s.Payments = append(s.Payments, p)
	}
	s.Payments[k] = p
	return s
}

// told is a state that knows one more request, with its reply.
func told(s api.State, r api.Request, reply api.Reply) api.State {
	s = clone(s)
	s.Known = append(s.Known, api.Known{Request: r, Reply: reply, Told: true})
	return s
}

// many is a state that knows so many keys: those that it did not know are from 1000 on.
func many(s api.State, n int) api.State {
	for k := len(s.Known); k < n; k++ {
		s = told(s, api.Request{Key: 1000 + k, A: 2}, api.Reply{ID: k})
	}
	return s
}

// The marks stand in the room behind the slices that are given: nothing may write there.
var (
	markAccount = api.Account{Cur: 71, Balance: 72, Held: 73}
	markPayment = api.Payment{From: 81, To: 82, Auth: 83, Until: 84}
	markSaga    = api.Saga{Leg: 91, Tries: 92}
	markKnown   = api.Known{Reply: api.Reply{ID: 95}}
	markRequest = api.Request{Key: 96, Op: 97, A: 98}
)

// roomy is a state with room behind its slices.
func roomy(s api.State) api.State {
	return api.State{
		Accounts: room(s.Accounts, markAccount),
		Payments: room(s.Payments, markPayment),
		Sagas:    room(s.Sagas, markSaga),
		Known:    room(s.Known, markKnown),
		Now:      s.Now,
	}
}

func room[E any](es []E, mark E) []E {
	return append(slices.Clone(es), mark, mark)[:len(es)]
}

// isLeft tells whether a slice with room is as it was made of another one.
func isLeft[E comparable](given, es []E, mark E) bool {
	return slices.Equal(given[:len(given)+2], append(slices.Clone(es), mark, mark))
}

// isUntouched tells whether a roomy state is as it was made of another one.
func isUntouched(given, s api.State) bool {
	return isLeft(given.Accounts, s.Accounts, markAccount) && isLeft(given.Payments, s.Payments, markPayment) &&
		isLeft(given.Sagas, s.Sagas, markSaga) && isLeft(given.Known, s.Known, markKnown) && given.Now == s.Now
}

// scribble writes over all that a state has, and over the room behind it.
func scribble(s api.State) {
	over(s.Accounts, api.Account{Cur: 61, Balance: 62, Held: 63})
	over(s.Payments, api.Payment{From: 64, Auth: 65, Until: 66})
	over(s.Sagas, api.Saga{Leg: 67})
	over(s.Known, api.Known{Reply: api.Reply{ID: 68}})
}

func over[E any](es []E, e E) {
	es = es[:cap(es)]
	for k := range es {
		es[k] = e
	}
}

// answer is what Do returns.
type answer struct {
	s     api.State
	reply api.Reply
	used  int
}

// ask calls Do, twice: the answers are the same, what is given is not touched, and the one answer has nothing of the other's, or of what was given.
func ask(t *testing.T, s api.State, r api.Request, legs []bool) answer {
	t.Helper()
	given := roomy(s)
	// The room has answers of both kinds: neither of them may be asked.
	ls := append(slices.Clone(legs), false, true)[:len(legs)]
	after, reply, used := bank.Do(given, r, ls)
	other, reply2, used2 := bank.Do(given, r, ls)
	if reply != reply2 || used != used2 || !equal(after, other) {
		t.Errorf("%+v, %v: %+v, and then %+v", r, legs, after, other)
	}
	own := clone(after)
	// What is unchanged may be what was given itself.
	if !equal(after, s) {
		scribble(other)
	}
	if !equal(after, own) || !isUntouched(given, s) || !slices.Equal(ls[:len(legs)+2], append(slices.Clone(legs), false, true)) {
		t.Errorf("%+v, %v: what is given is changed, or memory is shared", r, legs)
	}
	return answer{own, reply, used}
}

// refuses asks for a reply with which nothing is changed, and no answer used.
func refuses(t *testing.T, s api.State, r api.Request, want api.Reply) {
	t.Helper()
	for _, legs := range [][]bool{nil, {}, {true}, {false, false, false, false}} {
		a := ask(t, s, r, legs)
		if a.reply != want || a.used != 0 || !equal(a.s, s) {
			t.Errorf("%+v, %v: %+v, %d, not %+v\n%+v", r, legs, a.reply, a.used, want, a.s)
		}
	}
}

// does asks for a reply, and for what is changed beside the keys. It is told again, also where answers are left.
func does(t *testing.T, s api.State, r api.Request, legs []bool, reply api.Reply, used int, want api.State) {
	t.Helper()
	want = told(want, r, reply)
	a := ask(t, s, r, legs)
	if a.reply != reply || a.used != used || !equal(a.s, want) {
		t.Errorf("%+v, %v: %+v, %d, not %+v, %d\n%+v, not\n%+v", r, legs, a.reply, a.used, reply, used, a.s, want)
	}
	refuses(t, a.s, r, reply)
	r.Amount++
	if r.Op == api.OpOpen || r.Op == api.OpVoid || r.Amount > 1 && r.Amount <= amount {
		refuses(t, a.s, r, api.Reply{Err: api.ErrKey})
	}
}

// atOnce does a request that uses none of the answers, whatever they are.
func atOnce(t *testing.T, s api.State, r api.Request, reply api.Reply, want api.State) {
	t.Helper()
	for _, legs := range [][]bool{nil, {}, {true, true, true}, {false}, {false, false, false, false, false}} {
		does(t, s, r, legs, reply, 0, want)
	}
}

// fails does a request that comes to an error, at once: this is recorded, and nothing else is changed.
func fails(t *testing.T, s api.State, r api.Request, want api.Errno) {
	t.Helper()
	atOnce(t, s, r, api.Reply{Err: want}, s)
}

// The requests.

func open(cur int) api.Request { return api.Request{Key: 31, Op: api.OpOpen, A: cur} }

func deposit(a, n int) api.Request {
	return api.Request{Key: 32, Op: api.OpDeposit, A: a, Amount: n}
}

func transfer(a, b, n int) api.Request {
	return api.Request{Key: 33, Op: api.OpTransfer, A: a, B: b, Amount: n}
}

func auth(a, b, n, until int) api.Request {
	return api.Request{Key: 34, Op: api.OpAuth, A: a, B: b, Amount: n, Until: until}
}

func capture(k, n int) api.Request {
	return api.Request{Key: 35, Op: api.OpCapture, A: k, Amount: n}
}

func void(k int) api.Request { return api.Request{Key: 36, Op: api.OpVoid, A: k} }

func refund(k, n int) api.Request {
	return api.Request{Key: 37, Op: api.OpRefund, A: k, Amount: n}
}

func charge(k, n int) api.Request {
	return api.Request{Key: 38, Op: api.OpCharge, A: k, Amount: n}
}

// asks are one request of each Op that base does.
func asks() []api.Request {
	return []api.Request{open(1), deposit(9, 5), transfer(9, 10, 5), auth(9, 10, 5, 21), capture(0, 5), void(0), refund(1, 5), charge(1, 5)}
}

// states are some that know something, or nothing.
func states() []api.State {
	return []api.State{base(), ops.New(), many(base(), 255), many(base(), 256), many(base(), 257)}
}

// P16.1, 1: requests that are not valid

// notValid are requests that may not be, each in one way.
func notValid() []api.Request {
	rs := []api.Request{}
	with := func(r api.Request, change func(*api.Request)) {
		change(&r)
		rs = append(rs, r)
	}
	for _, r := range asks() {
		for _, n := range []int{-1, -2, ticks, ticks + 1, math.MinInt, math.MaxInt} {
			with(r, func(r *api.Request) { r.Key = n })
		}
		for _, n := range []int{-1, ticks + 1, math.MinInt, math.MaxInt} {
			with(r, func(r *api.Request) { r.Until = n })
		}
		for _, n := range []int{-1, 5, 6, math.MinInt, math.MaxInt} {
			with(r, func(r *api.Request) { r.Legs = n })
		}
		for _, n := range []int{1, 2, 4} {
			if r.Op != api.OpTransfer {
				with(r, func(r *api.Request) { r.Legs = n })
			}
		}
		for _, n := range []int{0, -1, amount + 1, math.MinInt, math.MaxInt} {
			if r.Op != api.OpOpen && r.Op != api.OpVoid {
				with(r, func(r *api.Request) { r.Amount = n })
			}
		}
		for _, op := range []api.Op{-1, 8, 9, 256, math.MinInt, math.MaxInt} {
			with(r, func(r *api.Request) { r.Op = op })
		}
	}
	for _, cur := range []int{-1, 3, 4, 9, math.MinInt, math.MaxInt} {
		rs = append(rs, open(cur))
	}
	return rs
}

func TestNotValid(t *testing.T) {
	for _, s := range states() {
		for _, r := range notValid() {
			refuses(t, s, r, api.Reply{Err: api.ErrBad})
		}
	}
}

// Also where the key is known, of another request or of this one, told or not.
func TestNotValidOfAKeyThatIsKnown(t *testing.T) {
	for _, s := range []api.State{base(), many(base(), 256)} {
		for _, r := range notValid() {
			for _, key := range []int{4, 5, 6} {
				if 0 <= r.Key && r.Key < ticks {
					r.Key = key
				}
				refuses(t, s, r, api.Reply{Err: api.ErrBad})
			}
			refuses(t, told(s, r, api.Reply{ID: 12}), r, api.Reply{Err: api.ErrBad})
			known := clone(s)
			known.Known = append(known.Known, api.Known{Request: r})
			refuses(t, known, r, api.Reply{Err: api.ErrBad})
		}
	}
}

// P16.1, 2: a key that is known

func TestKnown(t *testing.T) {
	for _, s := range []api.State{base(), many(base(), 255), many(base(), 256), many(base(), 257)} {
		refuses(t, s, opened(), api.Reply{ID: 11})
		refuses(t, s, pending(), api.Reply{Err: api.ErrPending})
		refuses(t, s, refused(), api.Reply{Err: api.ErrInsufficient})
	}
	for _, n := range []int{4, 255, 256, 257} {
		s := many(base(), n)
		refuses(t, s, s.Known[n-1].Request, api.Reply{ID: n - 1})
	}
}

// A reply is told as it stands, with all that it has.
func TestKnownReplies(t *testing.T) {
	for _, reply := range []api.Reply{{}, {ID: 1}, {Err: 1}, {Err: 13, ID: -5}, {Err: api.ErrKey}, {Err: api.ErrPending, ID: 2}, {Err: -1, ID: math.MaxInt}} {
		for _, r := range asks() {
			s := told(base(), r, reply)
			refuses(t, s, r, reply)
			// As long as there is none, what stands there does not count.
			s.Known[3].Told = false
			refuses(t, s, r, api.Reply{Err: api.ErrPending})
		}
	}
}

// others are requests of the same key that differ, mostly in one field each. All of them may be.
func others(r api.Request) []api.Request {
	rs := []api.Request{}
	add := func(change func(*api.Request)) {
		other := r
		change(&other)
		if other != r && isValid(other) {
			rs = append(rs, other)
		}
	}
	add(func(r *api.Request) { r.A-- })
	add(func(r *api.Request) { r.A++ })
	add(func(r *api.Request) { r.B++ })
	add(func(r *api.Request) { r.Amount++ })
	add(func(r *api.Request) { r.Until++ })
	add(func(r *api.Request) { r.Legs++ })
	add(func(r *api.Request) { r.Legs = 0 })
	for op := range api.Op(8) {
		add(func(r *api.Request) { r.Op = op })
		add(func(r *api.Request) { r.Op, r.Legs = op, 0 })
	}
	return rs
}

func TestKnownOfAnotherRequest(t *testing.T) {
	for _, s := range []api.State{base(), many(base(), 255), many(base(), 256), many(base(), 257)} {
		for _, r := range []api.Request{opened(), pending(), refused()} {
			for _, other := range others(r) {
				refuses(t, s, other, api.Reply{Err: api.ErrKey})
			}
		}
	}
}

// Of two elements of one key the first one counts.
func TestKnownTwice(t *testing.T) {
	s := told(told(base(), open(0), api.Reply{ID: 1}), open(0), api.Reply{ID: 2})
	refuses(t, s, open(0), api.Reply{ID: 1})
	s = told(s, open(2), api.Reply{ID: 3})
	refuses(t, s, open(2), api.Reply{Err: api.ErrKey})
}

// A saga of a key that is not known does not count: it is the keys that are asked.
func TestSagaOfAKeyThatIsNotKnown(t *testing.T) {
	s := base()
	s.Known = s.Known[:1]
	does(t, s, pending(), []bool{false, true}, api.Reply{}, 2, moved(s, 10, -7, 9, 7))
}

// P16.1, 3: no more keys

func TestUpToTheMostKeys(t *testing.T) {
	for _, r := range append(asks(), transfer(9, 10, 71), deposit(8, 1), long(9, 10, 5, 2)) {
		for _, n := range []int{3, 254, 255} {
			s := many(base(), n)
			a := ask(t, s, r, nil)
			if len(a.s.Known) != n+1 || a.s.Known[n] != (api.Known{Request: r, Reply: a.reply, Told: true}) {
				t.Errorf("%+v with %d keys: %+v", r, n, a.reply)
			}
			if n == 255 {
				r.Key++
				refuses(t, a.s, r, api.Reply{Err: api.ErrLimit})
				r.Key--
			}
		}
		for _, n := range []int{256, 257, 258, 512} {
			refuses(t, many(base(), n), r, api.Reply{Err: api.ErrLimit})
		}
	}
	if api.MaxKeys != 256 {
		t.Error(api.MaxKeys)
	}
}

// Keys that have no reply count as others do.
func TestUpToTheMostKeysWithoutReplies(t *testing.T) {
	s := base()
	for len(s.Known) < 256 {
		s.Known = append(s.Known, api.Known{Request: api.Request{Key: 500 + len(s.Known)}})
	}
	refuses(t, s, open(1), api.Reply{Err: api.ErrLimit})
	refuses(t, s, s.Known[255].Request, api.Reply{Err: api.ErrPending})
	s.Known = s.Known[:255]
	after := clone(s)
	after.Accounts = append(after.Accounts, api.Account{Cur: 1})
	atOnce(t, s, open(1), api.Reply{ID: 15}, after)
}

// P16.1, 4: requests that are not Long

func TestAtOnce(t *testing.T) {
	s := base()
	grown := clone(s)
	grown.Accounts = append(grown.Accounts, api.Account{Cur: 1})
	want := []struct {
		id int
		s  api.State
	}{
		{15, grown},
		{0, moved(s, 0, -5, 9, 5)},
		{0, moved(s, 9, -5, 10, 5)},
		{2, pays(held(s, 9, 5), 2, api.Payment{From: 9, To: 10, Auth: 5, Until: 21})},
		{0, pays(held(moved(s, 9, -5, 10, 5), 9, -5), 0, api.Payment{From: 9, To: 10, Auth: 30, Captured: 5, Until: 100})},
		{0, pays(held(s, 9, -30), 0, api.Payment{From: 9, To: 10, Auth: 30, Until: 100, Stage: api.Closed})},
		{0, pays(moved(s, 10, -5, 9, 5), 1, api.Payment{From: 9, To: 10, Auth: 20, Captured: 20, Refunded: 5, Until: 200, Stage: api.Closed})},
		{0, pays(moved(s, 10, -5, 9, 5), 1, api.Payment{From: 9, To: 10, Auth: 20, Captured: 20, Charged: 5, Until: 200, Stage: api.Closed})},
	}
	for k, r := range asks() {
		if r.Op != api.Op(k) {
			t.Error(r)
		}
		atOnce(t, s, r, api.Reply{ID: want[k].id}, want[k].s)
	}
}

// An error of ops.Do is a reply as any other is: it is recorded, and told again.
func TestAtOnceWithAnError(t *testing.T) {
	s := base()
	full := clone(s)
	for len(full.Accounts) < 64 {
		full.Accounts = append(full.Accounts, api.Account{Cur: 2})
	}
	fails(t, full, open(1), api.ErrLimit)
	for _, k := range []int{-1, 0, 3, 8, 15, math.MaxInt, math.MinInt} {
		fails(t, s, deposit(k, 5), api.ErrUnknown)
		fails(t, s, transfer(k, 9, 5), api.ErrUnknown)
		fails(t, s, transfer(9, k, 5), api.ErrUnknown)
		fails(t, s, auth(k, 9, 5, 21), api.ErrUnknown)
		fails(t, s, auth(9, k, 5, 21), api.ErrUnknown)
	}
	rich := moved(s, 0, 1000-balance, 2, -896, 9, balance-104)
	fails(t, rich, deposit(9, 5), api.ErrOverflow)
	atOnce(t, rich, deposit(9, 4), api.Reply{}, moved(rich, 0, -4, 9, 4))
	fails(t, s, transfer(9, 9, 5), api.ErrBad)
	fails(t, s, transfer(9, 10, 71), api.ErrInsufficient)
	fails(t, s, transfer(9, 11, 1), api.ErrBad)
	fails(t, s, auth(9, 9, 5, 21), api.ErrBad)
	fails(t, s, auth(9, 10, 5, 20), api.ErrBad)
	fails(t, s, auth(9, 10, 71, 21), api.ErrInsufficient)
	for _, k := range []int{-1, 2, 64, math.MaxInt, math.MinInt} {
		fails(t, s, capture(k, 5), api.ErrUnknown)
		fails(t, s, void(k), api.ErrUnknown)
		fails(t, s, refund(k, 5), api.ErrUnknown)
		fails(t, s, charge(k, 5), api.ErrUnknown)
	}
	fails(t, s, capture(0, 31), api.ErrState)
	fails(t, s, void(1), api.ErrState)
	fails(t, s, refund(1, 21), api.ErrState)
	fails(t, s, charge(1, 21), api.ErrState)
}

// What came to an error is not done later either, when it could be.
func TestAnErrorStays(t *testing.T) {
	s := base()
	short := api.Request{Key: 50, Op: api.OpTransfer, A: 12, B: 11, Amount: 5}
	a := ask(t, s, short, nil)
	if a.reply != (api.Reply{Err: api.ErrInsufficient}) {
		t.Error(a.reply)
	}
	rich := ask(t, a.s, deposit(12, 9), nil)
	if rich.reply != (api.Reply{}) {
		t.Error(rich.reply)
	}
	refuses(t, rich.s, short, api.Reply{Err: api.ErrInsufficient})
	short.Key++
	atOnce(t, rich.s, short, api.Reply{}, moved(rich.s, 12, -5, 11, 5))
}

// The keys that may be, and those fields of a request that do not matter, are kept as they are.
func TestWhatIsRecorded(t *testing.T) {
	for _, key := range []int{0, 1, 3, 7, ticks - 2, ticks - 1} {
		for _, b := range anyInts {
			for _, until := range []int{0, 1, 19, 20, ticks} {
				r := api.Request{Key: key, Op: api.OpDeposit, A: 9, B: b, Amount: 2, Until: until}
				a := ask(t, base(), r, nil)
				if a.reply != (api.Reply{}) || !equal(a.s, told(moved(base(), 0, -2, 9, 2), r, api.Reply{})) {
					t.Errorf("%+v: %+v", r, a)
				}
			}
		}
	}
	for _, n := range anyInts {
		r := api.Request{Key: 8, Op: api.OpVoid, A: 0, B: n, Amount: n}
		if a := ask(t, base(), r, nil); a.reply != (api.Reply{}) || a.s.Known[3].Request != r {
			t.Errorf("%+v: %+v", r, a)
		}
	}
}

// What else is in a state stays in it.
func TestWhatStays(t *testing.T) {
	for _, r := range append(asks(), long(9, 10, 5, 1), long(9, 10, 500, 1), long(9, 11, 1, 1)) {
		for _, legs := range [][]bool{nil, {false, false, false, false}} {
			a := ask(t, base(), r, legs)
			if !slices.Equal(a.s.Sagas, base().Sagas) || !slices.Equal(a.s.Known[:3], base().Known) || a.s.Now != 20 {
				t.Errorf("%+v: %+v", r, a.s)
			}
		}
	}
	for _, now := range anyInts {
		s := base()
		s.Now = now
		if a := ask(t, s, deposit(9, 1), nil); a.s.Now != now || a.reply.Err != 0 {
			t.Errorf("%d: %+v", now, a)
		}
	}
}

// W6: two results of one state, each with one thing more, know nothing of each other.
func TestTwoResultsOfOneState(t *testing.T) {
	given := roomy(base())
	rs := append(asks(), transfer(9, 10, 71), void(7), long(9, 10, 5, 2), long(9, 10, 71, 2))
	for _, r := range rs {
		first, _, _ := bank.Do(given, r, nil)
		want := clone(first)
		for _, q := range rs {
			q.Key += 100
			second, _, _ := bank.Do(given, q, bank.Legs{false, true})
			bank.Do(first, q, nil)
			q.Key++
			third, _, _ := bank.Do(first, q, nil)
			scribble(second)
			scribble(third)
		}
		if !equal(first, want) || !isUntouched(given, base()) {
			t.Errorf("%+v: memory is shared", r)
		}
	}
}

// W1: states that have nothing.
func TestEmptyState(t *testing.T) {
	atOnce(t, api.State{}, open(1), api.Reply{}, api.State{Accounts: []api.Account{{Cur: 1}}})
	for _, r := range asks()[1:] {
		fails(t, api.State{}, r, api.ErrUnknown)
	}
	fails(t, api.State{}, long(9, 10, 5, 4), api.ErrUnknown)
	refuses(t, api.State{}, api.Request{Key: -1}, api.Reply{Err: api.ErrBad})
	atOnce(t, api.State{}, api.Request{}, api.Reply{}, api.State{Accounts: []api.Account{{}}})
}

// sums asks that the balances of each currency come to 0.
func sums(t *testing.T, s api.State) {
	t.Helper()
	if chart.Sums(s.Accounts) != [3]int{} || !chart.Right(s.Accounts) {
		t.Errorf("%v of %+v", chart.Sums(s.Accounts), s)
	}
}
