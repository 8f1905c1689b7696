package ops_test

import (
	"errors"
	"math"
	"slices"
	"testing"

	"hawala/api"
	"hawala/chart"
	"hawala/ops"
)

const (
	balance = 1 << 50
	amount  = 1 << 40
	ticks   = 1 << 30
)

// anyInts are of all sizes.
var anyInts = []int{math.MinInt, math.MinInt + 1, -balance - 1, -amount, -2, -1, 0, 1, 2, 3, 8, 9, 10, 14, 15, 63, 64, 65, ticks, amount, amount + 1, balance, balance + 1, math.MaxInt - 1, math.MaxInt}

// base are the house's nine accounts and two clients' of each currency: 9 and 10, 11 and 12, 13 and 14. The last index is 14. Of each currency they come to 0.
//
// Its payments, from 9 to 10: 0 has 30 left of 30; 1 has 10 left of 25, and 12 may go back; 2 is closed, and 20 may go back; 3 was closed with nothing captured. And from 11 to 13: 4 has 40 left of 40.
//
// A saga holds 7 of 10, so that 9 has 100 of which 40 are held, 10 has 60 and 7 of it held, and 11 has 50 and 40 of it held.
func base() api.State {
	saga := api.Request{Key: 5, Op: api.OpTransfer, A: 10, B: 9, Amount: 7, Legs: 2}
	return api.State{
		Accounts: []api.Account{
			{Cur: 0, Balance: -160}, {Cur: 0}, {Cur: 0},
			{Cur: 1, Balance: -50}, {Cur: 1}, {Cur: 1},
			{Cur: 2, Balance: -9000}, {Cur: 2}, {Cur: 2},
			{Cur: 0, Balance: 100, Held: 40}, {Cur: 0, Balance: 60, Held: 7},
			{Cur: 1, Balance: 50, Held: 40}, {Cur: 1},
			{Cur: 2, Balance: 9000}, {Cur: 2},
		},
		Payments: []api.Payment{
			{From: 9, To: 10, Auth: 30, Until: 100},
			{From: 9, To: 10, Auth: 25, Captured: 15, Refunded: 2, Charged: 1, Until: 200},
			{From: 9, To: 10, Auth: 20, Captured: 20, Until: 300, Stage: api.Closed},
			{From: 9, To: 10, Auth: 5, Until: 3, Stage: api.Closed},
			{From: 11, To: 13, Auth: 40, Until: 400},
		},
		Sagas: []api.Saga{{Request: saga, Leg: 1, Tries: 2}},
		Known: []api.Known{
			{Request: api.Request{Key: 4, Op: api.OpOpen, A: 1}, Reply: api.Reply{ID: 11}, Told: true},
			{Request: saga},
		},
		Now: 20,
	}
}

// clone is a state of its own.
func clone(s api.State) api.State {
	s.Accounts = slices.Clone(s.Accounts)
	s.Payments = slices.Clone(s.Payments)
	s.Sagas = slices.Clone(s.Sagas)
	s.Known = slices.Clone(s.Known)
	return s
}

func equal(s, u api.State) bool {
	return slices.Equal(s.Accounts, u.Accounts) && slices.Equal(s.Payments, u.Payments) &&
		slices.Equal(s.Sagas, u.Sagas) && slices.Equal(s.Known, u.Known) && s.Now == u.Now
}

// moved is a state with what pairs (an account, an amount) say added to the Balances.
func moved(s api.State, ns ...int) api.State {
	s = clone(s)
	for k := 0; k+1 < len(ns); k += 2 {
		s.Accounts[ns[k]].Balance += ns[k+1]
	}
	return s
}

// held is a state with n added to a Held.
func held(s api.State, k, n int) api.State {
	s = clone(s)
	s.Accounts[k].Held += n
	return s
}

// with is a state that has another account at an index.
func with(s api.State, k int, a api.Account) api.State {
	s = clone(s)
	s.Accounts[k] = a
	return s
}

// pays is a state that has another payment at an index, or one more.
func pays(s api.State, k int, p api.Payment) api.State {
	s = clone(s)
	if k == len(s.Payments) {
		s.Payments = append(s.Payments, p)
	}
	s.Payments[k] = p
	return s
}

// at is a state at another tick.
func at(s api.State, now int) api.State {
	s = clone(s)
	s.Now = now
	return s
}

// manyAccounts is a state with so many accounts; those that it did not have are empty.
func manyAccounts(s api.State, n int) api.State {
	s = clone(s)
	for len(s.Accounts) < n {
		s.Accounts = append(s.Accounts, api.Account{Cur: len(s.Accounts) % 3})
	}
	return s
}

// manyPayments is a state with so many payments; those that it did not have are closed.
func manyPayments(s api.State, n int) api.State {
	s = clone(s)
	for len(s.Payments) < n {
		s.Payments = append(s.Payments, api.Payment{From: 9, To: 10, Auth: 3, Stage: api.Closed})
	}
	return s
}

// The marks stand in the room behind the slices of a state that is given: nothing may write there.
var (
	markAccount = api.Account{Cur: 71, Balance: 72, Held: 73}
	markPayment = api.Payment{From: 81, To: 82, Auth: 83, Until: 84}
	markSaga    = api.Saga{Leg: 91, Tries: 92}
	markKnown   = api.Known{Reply: api.Reply{ID: 95}}
)

// roomy is a state with room behind its slices.
func roomy(s api.State) api.State {
	return api.State{
		Accounts: room(s.Accounts, markAccount),
		Payments: room(s.Payments, markPayment),
		Sagas:    room(s.Sagas, markSaga),
		Known:    room(s.Known, markKnown),
		Now:      s.Now,
	}
}

func room[E any](es []E, mark E) []E {
	return append(slices.Clone(es), mark, mark)[:len(es)]
}

func isRoomLeft[E comparable](es []E, mark E) bool {
	return slices.Equal(es[len(es):len(es)+2], []E{mark, mark})
}

// isUntouched tells whether a roomy state is as it was made of another one.
func isUntouched(given, s api.State) bool {
	return equal(given, s) && isRoomLeft(given.Accounts, markAccount) && isRoomLeft(given.Payments, markPayment) &&
		isRoomLeft(given.Sagas, markSaga) && isRoomLeft(given.Known, markKnown)
}

// scribble writes over all that a state has, and over the room behind it.
func scribble(s api.State) {
	over(s.Accounts, api.Account{Cur: 61, Balance: 62, Held: 63})
	over(s.Payments, api.Payment{From: 64, Auth: 65, Until: 66})
	over(s.Sagas, api.Saga{Leg: 67})
	over(s.Known, api.Known{Reply: api.Reply{ID: 68}})
}

func over[E any](es []E, e E) {
	es = es[:cap(es)]
	for k := range es {
		es[k] = e
	}
}

// answer is what each of the functions returns.
type answer struct {
	s     api.State
	reply api.Reply
}

// call is one of the functions.
type call func(api.State, api.Request) answer

func do(s api.State, r api.Request) answer {
	after, reply := ops.Do(s, r)
	return answer{after, reply}
}

func ofError(s api.State, err error) answer {
	var n api.Errno
	if err != nil && !errors.As(err, &n) {
		return answer{s, api.Reply{Err: -1}}
	}
	return answer{s, api.Reply{Err: n}}
}

func reserve(s api.State, r api.Request) answer { return ofError(ops.Reserve(s, r)) }

func settle(s api.State, r api.Request) answer { return ofError(ops.Settle(s, r)) }

func undo(s api.State, r api.Request) answer { return ofError(ops.Undo(s, r)) }

func tick(s api.State, _ api.Request) answer { return answer{s: ops.Tick(s)} }

// ask calls a function, twice: the answers are the same, what is given is not touched, and the one answer has nothing of the other's, or of what was given.
func ask(t *testing.T, c call, s api.State, r api.Request) answer {
	t.Helper()
	given := roomy(s)
	a, b := c(given, r), c(given, r)
	if a.reply != b.reply || !equal(a.s, b.s) {
		t.Errorf("%+v: %+v, and then %+v", r, a, b)
	}
	if !isUntouched(given, s) {
		t.Errorf("%+v: what is given is changed: %+v", r, given)
	}
	// What is unchanged may be what was given itself.
	if a.reply.Err != 0 || equal(a.s, s) {
		return answer{clone(a.s), a.reply}
	}
	own := clone(a.s)
	scribble(b.s)
	if !equal(a.s, own) || !isUntouched(given, s) {
		t.Errorf("%+v: memory is shared", r)
	}
	return answer{own, a.reply}
}

// does asks for what is done, and made.
func does(t *testing.T, c call, s api.State, r api.Request, id int, want api.State) {
	t.Helper()
	a := ask(t, c, s, r)
	if a.reply != (api.Reply{ID: id}) || !equal(a.s, want) {
		t.Errorf("%+v: %+v\n%+v, not %d\n%+v", r, a.reply, a.s, id, want)
	}
}

// fails asks for an error, with which the state is unchanged.
func fails(t *testing.T, c call, s api.State, r api.Request, want api.Errno) {
	t.Helper()
	a := ask(t, c, s, r)
	if a.reply != (api.Reply{Err: want}) || !equal(a.s, s) {
		t.Errorf("%+v: %+v, not %v\n%+v", r, a.reply, want, a.s)
	}
}

// The requests, each with a Key and Legs, which do not matter.

func open(cur int) api.Request { return api.Request{Key: 31, Op: api.OpOpen, A: cur} }

func deposit(a, n int) api.Request {
	return api.Request{Key: 32, Op: api.OpDeposit, A: a, Amount: n}
}

func transfer(a, b, n int) api.Request {
	return api.Request{Key: 33, Op: api.OpTransfer, A: a, B: b, Amount: n, Legs: 2}
}

func auth(a, b, n, until int) api.Request {
	return api.Request{Key: 34, Op: api.OpAuth, A: a, B: b, Amount: n, Until: until}
}

func capture(k, n int) api.Request {
	return api.Request{Key: 35, Op: api.OpCapture, A: k, Amount: n}
}

func void(k int) api.Request { return api.Request{Key: 36, Op: api.OpVoid, A: k} }

func refund(k, n int) api.Request {
	return api.Request{Key: 37, Op: api.OpRefund, A: k, Amount: n}
}

func charge(k, n int) api.Request {
	return api.Request{Key: 38, Op: api.OpCharge, A: k, Amount: n}
}

// asks are one request of each Op that base does.
func asks() []api.Request {
	return []api.Request{open(1), deposit(9, 5), transfer(9, 10, 5), auth(9, 10, 5, 21), capture(0, 5), void(0), refund(1, 5), charge(1, 5)}
}

// P15.1: New

func TestNew(t *testing.T) {
	want := api.State{Accounts: []api.Account{{Cur: 0}, {Cur: 0}, {Cur: 0}, {Cur: 1}, {Cur: 1}, {Cur: 1}, {Cur: 2}, {Cur: 2}, {Cur: 2}}}
	s, u := ops.New(), ops.New()
	if !equal(s, want) || !slices.Equal(s.Accounts, chart.New()) {
		t.Errorf("New() = %+v", s)
	}
	scribble(u)
	if !equal(s, want) || !equal(ops.New(), want) {
		t.Error("New answers the same memory twice")
	}
}

// P15.1: the Op decides

func TestOps(t *testing.T) {
	if api.OpOpen != 0 || api.OpDeposit != 1 || api.OpTransfer != 2 || api.OpAuth != 3 || api.OpCapture != 4 || api.OpVoid != 5 || api.OpRefund != 6 || api.OpCharge != 7 {
		t.Error("the Ops have other numbers")
	}
	s := base()
	closed := pays(held(s, 9, -30), 0, api.Payment{From: 9, To: 10, Auth: 30, Until: 100, Stage: api.Closed})
	want := []struct {
		id int
		s  api.State
	}{
		{15, api.State{Accounts: append(s.Accounts, api.Account{Cur: 1}), Payments: s.Payments, Sagas: s.Sagas, Known: s.Known, Now: 20}},
		{0, moved(s, 0, -5, 9, 5)},
		{0, moved(s, 9, -5, 10, 5)},
		{5, pays(held(s, 9, 5), 5, api.Payment{From: 9, To: 10, Auth: 5, Until: 21})},
		{0, pays(held(moved(s, 9, -5, 10, 5), 9, -5), 0, api.Payment{From: 9, To: 10, Auth: 30, Captured: 5, Until: 100})},
		{0, closed},
		{0, pays(moved(s, 10, -5, 9, 5), 1, api.Payment{From: 9, To: 10, Auth: 25, Captured: 15, Refunded: 7, Charged: 1, Until: 200})},
		{0, pays(moved(s, 10, -5, 9, 5), 1, api.Payment{From: 9, To: 10, Auth: 25, Captured: 15, Refunded: 2, Charged: 6, Until: 200})},
	}
	for k, r := range asks() {
		if r.Op != api.Op(k) {
			t.Error(r)
		}
		does(t, do, s, r, want[k].id, want[k].s)
	}
}

func TestOtherOps(t *testing.T) {
	for _, op := range []api.Op{-1, 8, 9, 10, 256, 1 << 32, -1 << 32, 1<<32 + 1, math.MinInt, math.MinInt + 1, math.MaxInt} {
		for _, s := range []api.State{base(), ops.New(), {}} {
			for _, r := range append(asks(), api.Request{}, api.Request{A: -1, B: 99, Amount: math.MaxInt, Legs: 9, Until: -3}) {
				r.Op = op
				fails(t, do, s, r, api.ErrBad)
			}
		}
	}
}

// What is done at once does not depend on the Legs, or on the Key, also of a request that no client may ask for.
func TestWhateverTheLegs(t *testing.T) {
	requests := append(asks(), open(9), deposit(8, 1), transfer(9, 9, 1), transfer(9, 10, 61), auth(9, 10, 1, 20), capture(0, 31), void(3), refund(0, 1), charge(9, 1))
	for _, r := range requests {
		want := ask(t, do, base(), r)
		for _, n := range anyInts {
			legs, key := r, r
			legs.Legs, key.Key = n, n
			for _, other := range []api.Request{legs, key} {
				if a := ask(t, do, base(), other); a.reply != want.reply || !equal(a.s, want.s) {
					t.Errorf("%+v: %+v, not as for %+v", other, a, r)
				}
			}
		}
	}
}

// What an Op does not ask for does not matter.
func TestWhateverElse(t *testing.T) {
	for _, r := range asks() {
		want := ask(t, do, base(), r)
		for _, n := range anyInts {
			other := r
			if r.Op != api.OpTransfer && r.Op != api.OpAuth {
				other.B = n
			}
			if r.Op == api.OpOpen || r.Op == api.OpVoid {
				other.Amount = n
			}
			if r.Op != api.OpAuth {
				other.Until = n
			}
			if a := ask(t, do, base(), other); a.reply != want.reply || !equal(a.s, want.s) {
				t.Errorf("%+v: %+v, not as for %+v", other, a, r)
			}
		}
	}
}

// P15.1: OpOpen

func TestOpen(t *testing.T) {
	s := ops.New()
	for k, cur := range []int{0, 1, 2, 2, 1, 0, 0} {
		a := ask(t, do, s, open(cur))
		want := clone(s)
		want.Accounts = append(want.Accounts, api.Account{Cur: cur})
		if a.reply != (api.Reply{ID: 9 + k}) || !equal(a.s, want) {
			t.Errorf("%+v: %+v", s, a)
		}
		s = a.s
	}
}

func TestOpenUpToTheLimit(t *testing.T) {
	for _, n := range []int{9, 10, 15, 62, 63} {
		s := manyAccounts(ops.New(), n)
		want := clone(s)
		want.Accounts = append(want.Accounts, api.Account{Cur: 2})
		does(t, do, s, open(2), n, want)
	}
	for _, n := range []int{64, 65, 66, 128, 1000} {
		fails(t, do, manyAccounts(base(), n), open(2), api.ErrLimit)
		fails(t, do, manyAccounts(base(), n), open(3), api.ErrLimit)
	}
	if api.MaxAccounts != 64 {
		t.Error(api.MaxAccounts)
	}
}

// The chapter names no error for a currency that is none.
func TestOpenOfNoCurrency(t *testing.T) {
	for _, cur := range []int{-1, 3, 4, math.MinInt, math.MaxInt} {
		s := base()
		want := clone(s)
		want.Accounts = append(want.Accounts, api.Account{Cur: cur})
		does(t, do, s, open(cur), 15, want)
		fails(t, do, want, deposit(15, 1), api.ErrUnknown)
		fails(t, do, want, transfer(9, 15, 1), api.ErrUnknown)
		does(t, do, want, deposit(9, 1), 0, moved(want, 0, -1, 9, 1))
	}
}

func TestOpenInAStateWithoutAccounts(t *testing.T) {
	does(t, do, api.State{}, open(1), 0, api.State{Accounts: []api.Account{{Cur: 1}}})
	does(t, do, api.State{Now: 3}, open(2), 0, api.State{Accounts: []api.Account{{Cur: 2}}, Now: 3})
}

// P15.1: OpDeposit

// noClients are indices of accounts that are not clients', where there are 15 accounts.
var noClients = []int{math.MinInt, -15, -9, -1, 0, 1, 2, 3, 4, 5, 6, 7, 8, 15, 16, 63, 64, math.MaxInt}

// noAmounts may not be asked for.
var noAmounts = []int{0, -1, -2, -amount, math.MinInt, amount + 1, balance, balance + 1, math.MaxInt}

func TestDeposit(t *testing.T) {
	for k := 9; k <= 14; k++ {
		world := (k - 9) / 2 * 3
		for _, n := range []int{1, 2, 50, amount - 1, amount} {
			does(t, do, base(), deposit(k, n), 0, moved(base(), world, -n, k, n))
		}
		for _, n := range noAmounts {
			fails(t, do, base(), deposit(k, n), api.ErrBad)
		}
	}
}

func TestDepositToNoClient(t *testing.T) {
	for _, k := range noClients {
		for _, n := range []int{1, 50, amount} {
			fails(t, do, base(), deposit(k, n), api.ErrUnknown)
		}
		fails(t, do, ops.New(), deposit(k, 1), api.ErrUnknown)
		fails(t, do, api.State{}, deposit(k, 1), api.ErrUnknown)
	}
	fails(t, do, ops.New(), deposit(9, 1), api.ErrUnknown)
	does(t, do, manyAccounts(ops.New(), 10), deposit(9, 1), 0, moved(manyAccounts(ops.New(), 10), 0, -1, 9, 1))
	fails(t, do, manyAccounts(ops.New(), 10), deposit(10, 1), api.ErrUnknown)
	does(t, do, manyAccounts(ops.New(), 64), deposit(63, 1), 0, moved(manyAccounts(ops.New(), 64), 0, -1, 63, 1))
	fails(t, do, manyAccounts(ops.New(), 64), deposit(64, 1), api.ErrUnknown)
}

func TestDepositUpToTheGreatestBalance(t *testing.T) {
	high := with(base(), 9, api.Account{Balance: balance - 5})
	does(t, do, high, deposit(9, 5), 0, moved(high, 0, -5, 9, 5))
	fails(t, do, high, deposit(9, 6), api.ErrOverflow)
	for k := 9; k <= 14; k++ {
		cur := (k - 9) / 2
		low := with(base(), 3*cur, api.Account{Cur: cur, Balance: 5 - balance})
		does(t, do, low, deposit(k, 5), 0, moved(low, 3*cur, -5, k, 5))
		fails(t, do, low, deposit(k, 6), api.ErrOverflow)
		fails(t, do, low, deposit(k, amount), api.ErrOverflow)
	}
}

// P15.1: OpTransfer

// move is what a transfer does between two accounts of base: the pairs of an account and an amount.
func move(a, b, n, converted int) []int {
	x, y := (a-9)/2, (b-9)/2
	if x == y {
		return []int{a, -n, b, n}
	}
	return []int{a, -n, 3*x + 1, n, 3*y + 1, -converted, b, converted}
}

// conversions are amounts, and what comes of them between two accounts of base.
var conversions = []struct{ a, b, n, converted int }{
	{9, 10, 1, 1}, {9, 10, 60, 60}, {10, 9, 53, 53},
	{9, 11, 2, 1}, {9, 11, 10, 9}, {9, 11, 60, 54}, {10, 12, 19, 17},
	{9, 13, 1, 150}, {9, 14, 60, 9000},
	{11, 9, 1, 1}, {11, 10, 10, 11}, {11, 9, 9, 9},
	{11, 12, 10, 10}, {11, 12, 1, 1},
	{11, 13, 1, 160}, {11, 14, 10, 1600},
	{13, 9, 151, 1}, {13, 10, 302, 2}, {13, 10, 301, 1}, {13, 9, 9000, 59},
	{13, 11, 161, 1}, {13, 12, 321, 1}, {13, 11, 9000, 55},
	{13, 14, 1, 1}, {13, 14, 9000, 9000},
}

// tooLittle are amounts that come to nothing.
var tooLittle = []struct{ a, b, n int }{{9, 11, 1}, {10, 12, 1}, {13, 9, 1}, {13, 10, 150}, {13, 11, 160}, {13, 12, 1}}

func TestTransfer(t *testing.T) {
	for _, c := range conversions {
		does(t, do, base(), transfer(c.a, c.b, c.n), 0, moved(base(), move(c.a, c.b, c.n, c.converted)...))
	}
	for _, c := range tooLittle {
		fails(t, do, base(), transfer(c.a, c.b, c.n), api.ErrBad)
	}
}

// Only what is free goes.
func TestTransferOfWhatIsFree(t *testing.T) {
	for _, c := range []struct{ a, free int }{{9, 60}, {10, 53}, {11, 10}, {13, 9000}} {
		for b := 9; b <= 14; b++ {
			if b == c.a {
				continue
			}
			a := ask(t, do, base(), transfer(c.a, b, c.free))
			if a.reply != (api.Reply{}) || chart.Free(a.s.Accounts[c.a]) != 0 {
				t.Errorf("%d to %d: %+v", c.a, b, a)
			}
			fails(t, do, base(), transfer(c.a, b, c.free+1), api.ErrInsufficient)
		}
	}
	fails(t, do, base(), transfer(9, 10, 100), api.ErrInsufficient)
	fails(t, do, base(), transfer(9, 10, amount), api.ErrInsufficient)
	for _, k := range []int{9, 10, 11} {
		fails(t, do, base(), transfer(12, k, 2), api.ErrInsufficient)
		fails(t, do, base(), transfer(14, k, 161), api.ErrInsufficient)
	}
}

func TestTransferOfWhatMayNotBe(t *testing.T) {
	for a := 9; a <= 14; a++ {
		for b := 9; b <= 14; b++ {
			for _, n := range noAmounts {
				fails(t, do, base(), transfer(a, b, n), api.ErrBad)
			}
		}
		for _, n := range []int{1, 10, 1000, amount} {
			fails(t, do, base(), transfer(a, a, n), api.ErrBad)
		}
	}
}

func TestTransferOfNoClient(t *testing.T) {
	for _, k := range noClients {
		for _, other := range append([]int{9, 10, 11, 14}, noClients...) {
			for _, n := range []int{1, 5} {
				fails(t, do, base(), transfer(k, other, n), api.ErrUnknown)
				fails(t, do, base(), transfer(other, k, n), api.ErrUnknown)
			}
		}
		fails(t, do, api.State{}, transfer(k, 9, 1), api.ErrUnknown)
		fails(t, do, ops.New(), transfer(9, k, 1), api.ErrUnknown)
	}
	s := moved(manyAccounts(ops.New(), 64), 0, -4, 63, 4)
	does(t, do, s, transfer(63, 9, 4), 0, moved(s, 63, -4, 9, 4))
	does(t, do, s, transfer(63, 60, 4), 0, moved(s, 63, -4, 60, 4))
	fails(t, do, s, transfer(64, 9, 4), api.ErrUnknown)
	fails(t, do, s, transfer(63, 64, 4), api.ErrUnknown)
}

func TestTransferUpToTheGreatestBalance(t *testing.T) {
	high := with(base(), 10, api.Account{Balance: balance - 5})
	does(t, do, high, transfer(9, 10, 5), 0, moved(high, 9, -5, 10, 5))
	fails(t, do, high, transfer(9, 10, 6), api.ErrOverflow)
	rich := with(with(base(), 9, api.Account{Balance: balance}), 11, api.Account{Cur: 1, Balance: balance})
	does(t, do, rich, transfer(9, 10, amount), 0, moved(rich, 9, -amount, 10, amount))
	does(t, do, rich, transfer(9, 12, amount), 0, moved(rich, move(9, 12, amount, amount*9/10)...))
	fails(t, do, rich, transfer(11, 9, amount), api.ErrOverflow)
	// An Exchange account goes over, either way.
	full := with(rich, 1, api.Account{Balance: balance - 10})
	does(t, do, full, transfer(9, 12, 10), 0, moved(full, move(9, 12, 10, 9)...))
	fails(t, do, full, transfer(9, 12, 11), api.ErrOverflow)
	low := with(rich, 4, api.Account{Cur: 1, Balance: 9 - balance})
	does(t, do, low, transfer(9, 12, 10), 0, moved(low, move(9, 12, 10, 9)...))
	fails(t, do, low, transfer(9, 12, 12), api.ErrOverflow)
	// So much can't be changed at all.
	fails(t, do, rich, transfer(9, 14, amount/150+1), api.ErrOverflow)
	does(t, do, rich, transfer(9, 14, amount/150), 0, moved(rich, move(9, 14, amount/150, amount/150*150)...))
}

// P15.1: OpAuth

// authorised is a state in which an amount is held for one payment more.
func authorised(s api.State, r api.Request) api.State {
	p := api.Payment{From: r.A, To: r.B, Auth: r.Amount, Until: r.Until}
	return pays(held(s, r.A, r.Amount), len(s.Payments), p)
}

func TestAuth(t *testing.T) {
	for a := 9; a <= 14; a++ {
		for b := 9; b <= 14; b++ {
			for _, n := range []int{1, 2, 10, 53, 54, 60, 61, 8999, 9000, 9001, amount} {
				r := auth(a, b, n, 77)
				switch {
				case a == b:
					fails(t, do, base(), r, api.ErrBad)
				case n > chart.Free(base().Accounts[a]):
					fails(t, do, base(), r, api.ErrInsufficient)
				default:
					// It does not matter what would come of it in another currency.
					does(t, do, base(), r, 5, authorised(base(), r))
				}
			}
			for _, n := range noAmounts {
				fails(t, do, base(), auth(a, b, n, 77), api.ErrBad)
			}
		}
	}
}

func TestAuthOfTheGreatestAmount(t *testing.T) {
	s := with(base(), 9, api.Account{Balance: balance})
	for _, n := range []int{1, amount - 1, amount} {
		does(t, do, s, auth(9, 10, n, 77), 5, authorised(s, auth(9, 10, n, 77)))
	}
	fails(t, do, s, auth(9, 10, amount+1, 77), api.ErrBad)
}

func TestAuthUntil(t *testing.T) {
	for _, now := range []int{0, 1, 20, 21, ticks - 1, ticks} {
		s := at(base(), now)
		for _, until := range []int{now + 1, now + 2, now + 1000, math.MaxInt} {
			r := auth(9, 10, 5, until)
			does(t, do, s, r, 5, authorised(s, r))
		}
		for _, until := range []int{now, now - 1, now - 2, 0, -1, math.MinInt} {
			fails(t, do, s, auth(9, 10, 5, until), api.ErrBad)
		}
	}
}

func TestAuthOfNoClient(t *testing.T) {
	for _, k := range noClients {
		for _, other := range append([]int{9, 10, 11, 14}, noClients...) {
			fails(t, do, base(), auth(k, other, 5, 21), api.ErrUnknown)
			fails(t, do, base(), auth(other, k, 5, 21), api.ErrUnknown)
		}
		fails(t, do, api.State{}, auth(k, 9, 1, 1), api.ErrUnknown)
		fails(t, do, ops.New(), auth(9, k, 1, 1), api.ErrUnknown)
	}
	s := moved(manyAccounts(ops.New(), 64), 0, -4, 63, 4)
	does(t, do, s, auth(63, 9, 4, 1), 0, authorised(s, auth(63, 9, 4, 1)))
	fails(t, do, s, auth(63, 64, 4, 1), api.ErrUnknown)
	fails(t, do, s, auth(64, 63, 4, 1), api.ErrUnknown)
}

func TestAuthUpToTheLimit(t *testing.T) {
	r := auth(9, 11, 5, 21)
	for _, n := range []int{5, 6, 62, 63} {
		s := manyPayments(base(), n)
		does(t, do, s, r, n, authorised(s, r))
	}
	for _, n := range []int{64, 65, 66, 128, 1000} {
		fails(t, do, manyPayments(base(), n), r, api.ErrLimit)
	}
	// Those that are closed count as those that are open do.
	s := base()
	for len(s.Payments) < 64 {
		fails(t, do, s, auth(11, 12, 11, 21), api.ErrInsufficient)
		s = authorised(s, auth(13, 14, 1, 21))
	}
	fails(t, do, s, auth(13, 14, 1, 21), api.ErrLimit)
	if api.MaxPayments != 64 {
		t.Error(api.MaxPayments)
	}
}

// What is held is free no more.
func TestAuthAgain(t *testing.T) {
	s := base()
	for k, n := range []int{30, 20, 9, 1} {
		a := ask(t, do, s, auth(9, 10, n, 21))
		want := authorised(s, auth(9, 10, n, 21))
		if a.reply != (api.Reply{ID: 5 + k}) || !equal(a.s, want) {
			t.Errorf("%+v", a)
		}
		s = a.s
	}
	fails(t, do, s, auth(9, 10, 1, 21), api.ErrInsufficient)
	fails(t, do, s, transfer(9, 10, 1), api.ErrInsufficient)
}
