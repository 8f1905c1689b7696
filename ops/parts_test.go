package ops_test

import (
	"math"
	"testing"

	"hawala/api"
	"hawala/chart"
	"hawala/ops"
)

// P15.2: Reserve

func TestReserve(t *testing.T) {
	for _, c := range conversions {
		r := transfer(c.a, c.b, c.n)
		if c.n <= chart.Free(base().Accounts[c.a]) {
			does(t, reserve, base(), r, 0, held(base(), c.a, c.n))
		} else {
			fails(t, reserve, base(), r, api.ErrInsufficient)
		}
	}
	for _, c := range tooLittle {
		fails(t, reserve, base(), transfer(c.a, c.b, c.n), api.ErrBad)
	}
	for _, c := range []struct{ a, free int }{{9, 60}, {10, 53}, {11, 10}, {13, 9000}} {
		for _, b := range []int{12, 14} {
			does(t, reserve, base(), transfer(c.a, b, c.free), 0, held(base(), c.a, c.free))
			fails(t, reserve, base(), transfer(c.a, b, c.free+1), api.ErrInsufficient)
		}
	}
}

func TestReserveErrors(t *testing.T) {
	for _, k := range noClients {
		for _, other := range append([]int{9, 11, 14}, noClients...) {
			for _, n := range []int{5, 61, 0, amount + 1} {
				fails(t, reserve, base(), transfer(k, other, n), api.ErrUnknown)
				fails(t, reserve, base(), transfer(other, k, n), api.ErrUnknown)
			}
		}
		fails(t, reserve, api.State{}, transfer(k, 9, 1), api.ErrUnknown)
	}
	for k := 9; k <= 14; k++ {
		fails(t, reserve, base(), transfer(k, k, 5), api.ErrBad)
		for _, n := range noAmounts {
			fails(t, reserve, base(), transfer(k, 9, n), api.ErrBad)
			fails(t, reserve, base(), transfer(9, k, n), api.ErrBad)
		}
	}
	rich := with(base(), 9, api.Account{Balance: balance})
	does(t, reserve, rich, transfer(9, 10, amount), 0, held(rich, 9, amount))
	does(t, reserve, rich, transfer(9, 14, amount/150), 0, held(rich, 9, amount/150))
	fails(t, reserve, rich, transfer(9, 14, amount/150+1), api.ErrOverflow)
	// The error of Move is the first one: nothing of this is free.
	fails(t, reserve, base(), transfer(9, 14, amount), api.ErrOverflow)
	fails(t, reserve, base(), transfer(12, 12, 5), api.ErrBad)
	fails(t, reserve, base(), transfer(14, 9, 150), api.ErrBad)
	fails(t, reserve, base(), transfer(14, 9, 151), api.ErrInsufficient)
	// Accounts of no currency, and of the same one that is none.
	strange := base()
	strange.Accounts = append(strange.Accounts, api.Account{Cur: 3, Balance: 5}, api.Account{Cur: 3})
	fails(t, reserve, strange, transfer(9, 15, 5), api.ErrUnknown)
	does(t, reserve, strange, transfer(15, 16, 5), 0, held(strange, 15, 5))
	// To's account need not have room: that is found by Settle.
	full := with(base(), 10, api.Account{Balance: balance})
	does(t, reserve, full, transfer(9, 10, 60), 0, held(full, 9, 60))
	fails(t, settle, held(full, 9, 60), transfer(9, 10, 60), api.ErrOverflow)
}

// What is reserved is free no more.
func TestReserveAgain(t *testing.T) {
	s := held(base(), 9, 59)
	does(t, reserve, s, transfer(9, 10, 1), 0, held(s, 9, 1))
	fails(t, reserve, s, transfer(9, 10, 2), api.ErrInsufficient)
	fails(t, do, s, transfer(9, 10, 2), api.ErrInsufficient)
	s = ask(t, reserve, base(), transfer(9, 10, 30)).s
	does(t, reserve, s, transfer(9, 11, 30), 0, held(base(), 9, 60))
	fails(t, reserve, s, transfer(9, 11, 31), api.ErrInsufficient)
}

// P15.2: Settle

func TestSettle(t *testing.T) {
	for _, c := range conversions {
		for _, more := range []int{0, 3} {
			s := base()
			s.Accounts[c.a].Balance, s.Accounts[c.a].Held = c.n+more, c.n+more
			r := transfer(c.a, c.b, c.n)
			does(t, settle, s, r, 0, held(moved(s, move(c.a, c.b, c.n, c.converted)...), c.a, -c.n))
		}
	}
	for _, c := range tooLittle {
		fails(t, settle, base(), transfer(c.a, c.b, c.n), api.ErrBad)
	}
}

// What Reserve held, Settle moves, and Undo lets go.
func TestReserveAndThen(t *testing.T) {
	for _, c := range conversions {
		r := transfer(c.a, c.b, c.n)
		a := ask(t, reserve, base(), r)
		if a.reply.Err != 0 {
			continue
		}
		does(t, settle, a.s, r, 0, moved(base(), move(c.a, c.b, c.n, c.converted)...))
		does(t, undo, a.s, r, 0, base())
		if s := ask(t, do, base(), r).s; !equal(s, ask(t, settle, a.s, r).s) {
			t.Errorf("%+v: at once it is %+v", r, s)
		}
	}
}

// Of what is held, whatever for, as much is settled as there is.
func TestSettleOfWhatWasNotReserved(t *testing.T) {
	for _, c := range []struct{ a, b, held int }{{9, 10, 40}, {10, 9, 7}, {11, 12, 40}} {
		r := transfer(c.a, c.b, c.held)
		does(t, settle, base(), r, 0, held(moved(base(), c.a, -c.held, c.b, c.held), c.a, -c.held))
		does(t, undo, base(), r, 0, held(base(), c.a, -c.held))
		r.Amount++
		fails(t, settle, base(), r, api.ErrState)
		fails(t, undo, base(), r, api.ErrState)
	}
	for _, k := range []int{12, 14} {
		for _, n := range []int{1, 5, amount} {
			fails(t, settle, base(), transfer(k, k-1, n), api.ErrState)
			fails(t, undo, base(), transfer(k, k-1, n), api.ErrState)
		}
	}
	fails(t, settle, base(), transfer(13, 14, 1), api.ErrState)
	fails(t, undo, base(), transfer(13, 14, 1), api.ErrState)
}

func TestSettleErrors(t *testing.T) {
	for _, k := range noClients {
		if k >= 0 && k <= 8 {
			continue
		}
		for _, n := range []int{5, 0, amount + 1} {
			fails(t, settle, base(), transfer(k, 10, n), api.ErrUnknown)
			fails(t, settle, base(), transfer(9, k, n), api.ErrUnknown)
		}
		fails(t, settle, api.State{}, transfer(k, 9, 1), api.ErrUnknown)
	}
	for k := 9; k <= 14; k++ {
		fails(t, settle, base(), transfer(k, k, 5), api.ErrBad)
		for _, n := range noAmounts {
			fails(t, settle, base(), transfer(k, 9, n), api.ErrBad)
		}
	}
	// Nothing is held of the house; the error of Move is the first one.
	for k := range 9 {
		fails(t, settle, base(), transfer(k, 10, 151), api.ErrUnknown)
		fails(t, settle, base(), transfer(k, 10, 0), api.ErrBad)
	}
	// Settle does not ask whether B is a client's account.
	does(t, settle, base(), transfer(9, 2, 5), 0, held(moved(base(), 9, -5, 2, 5), 9, -5))
	// Move, and what is held; what is held, and the greatest balance.
	fails(t, settle, base(), transfer(12, 14, amount), api.ErrOverflow)
	fails(t, settle, base(), transfer(12, 12, 5), api.ErrBad)
	full := with(base(), 10, api.Account{Balance: balance})
	fails(t, settle, full, transfer(9, 10, 41), api.ErrState)
	fails(t, settle, full, transfer(9, 10, 40), api.ErrOverflow)
	// More is held than is there, so that something is short behind it.
	short := with(base(), 9, api.Account{Balance: 4, Held: 6})
	fails(t, settle, short, transfer(9, 10, 5), api.ErrInsufficient)
}

// P15.2: Undo

func TestUndo(t *testing.T) {
	for _, c := range []struct{ a, held int }{{9, 40}, {10, 7}, {11, 40}} {
		for n := 1; n <= c.held; n++ {
			does(t, undo, base(), transfer(c.a, 14, n), 0, held(base(), c.a, -n))
		}
		for _, n := range []int{c.held + 1, 100, amount} {
			fails(t, undo, base(), transfer(c.a, 14, n), api.ErrState)
		}
		for _, n := range noAmounts {
			fails(t, undo, base(), transfer(c.a, 14, n), api.ErrBad)
		}
	}
	for _, k := range noClients {
		for _, n := range []int{1, 0, amount + 1} {
			fails(t, undo, base(), transfer(k, 9, n), api.ErrUnknown)
			fails(t, undo, api.State{}, transfer(k, 9, n), api.ErrUnknown)
		}
	}
}

// Undo asks for A and Amount alone; Reserve and Settle for B too, and none of them for the Op.
func TestInTwoPartsWhateverElse(t *testing.T) {
	for _, c := range []call{reserve, settle, undo} {
		want := ask(t, c, base(), transfer(9, 11, 20))
		if want.reply.Err != 0 {
			t.Error(want)
		}
		for _, n := range anyInts {
			for _, r := range []api.Request{
				{Key: n, Op: api.OpTransfer, A: 9, B: 11, Amount: 20},
				{Op: api.Op(n), A: 9, B: 11, Amount: 20, Legs: 1},
				{Op: api.OpTransfer, A: 9, B: 11, Amount: 20, Legs: n, Until: n},
			} {
				if a := ask(t, c, base(), r); a.reply != want.reply || !equal(a.s, want.s) {
					t.Errorf("%+v: %+v", r, a)
				}
			}
			does(t, undo, base(), api.Request{A: 9, B: n, Amount: 20}, 0, held(base(), 9, -20))
		}
	}
}

// P15.2: Tick

// goesBy has a tick go by.
func goesBy(t *testing.T, s, want api.State) {
	t.Helper()
	does(t, tick, s, api.Request{}, 0, want)
}

func TestTick(t *testing.T) {
	for _, now := range []int{0, 1, 20, 98, ticks - 2, ticks - 1} {
		s := at(base(), now)
		s.Payments, s.Accounts[9].Held, s.Accounts[11].Held = nil, 0, 0
		goesBy(t, s, at(s, now+1))
	}
	goesBy(t, ops.New(), at(ops.New(), 1))
	goesBy(t, api.State{}, api.State{Now: 1})
	goesBy(t, base(), at(base(), 21))
	goesBy(t, at(base(), 98), at(base(), 99))
}

// It ends at the tick that it names, and not at the one ahead of it.
func TestTickAtTheEndOfAPayment(t *testing.T) {
	for k, c := range map[int]struct{ until, a, left int }{0: {100, 9, 30}, 1: {200, 9, 10}, 4: {400, 11, 40}} {
		s := base()
		for j, p := range s.Payments {
			if j != k {
				s.Payments[j].Stage = api.Closed
				s.Accounts[p.From].Held -= base().Payments[j].Auth - p.Captured
			}
		}
		s.Accounts[9].Held, s.Accounts[11].Held = 0, 0
		s.Accounts[c.a].Held = c.left
		goesBy(t, at(s, c.until-2), at(s, c.until-1))
		over := paid(held(s, c.a, -c.left), k, 0, 0, 0, api.Closed)
		for _, now := range []int{c.until - 1, c.until, c.until + 1, c.until + 1000} {
			goesBy(t, at(s, now), at(over, now+1))
			goesBy(t, at(over, now), at(over, now+1))
		}
	}
}

func TestTickWithSeveralPayments(t *testing.T) {
	end := func(s api.State, ks ...int) api.State {
		for _, k := range ks {
			p := s.Payments[k]
			s = paid(held(s, p.From, p.Captured-p.Auth), k, 0, 0, 0, api.Closed)
		}
		return s
	}
	goesBy(t, at(base(), 99), at(end(base(), 0), 100))
	goesBy(t, at(base(), 198), at(end(base(), 0), 199))
	goesBy(t, at(base(), 199), at(end(base(), 0, 1), 200))
	goesBy(t, at(base(), 398), at(end(base(), 0, 1), 399))
	goesBy(t, at(base(), 399), at(end(base(), 0, 1, 4), 400))
	for _, untils := range [][3]int{{21, 21, 21}, {21, 22, 21}, {22, 21, 21}, {22, 22, 22}, {20, 21, 22}, {0, -5, 21}, {23, 22, 22}} {
		s := base()
		due := []int{}
		for k, until := range untils {
			j := []int{0, 1, 4}[k]
			s.Payments[j].Until = until
			if until <= 21 {
				due = append(due, j)
			}
		}
		goesBy(t, s, at(end(s, due...), 21))
	}
}

// The order of the payments is seen where what is held does not do for all of them: the first ones by Until, and then by their indices, are closed.
func TestTickInOrder(t *testing.T) {
	for _, c := range []struct {
		untils [3]int
		closed int
	}{{[3]int{21, 21, 21}, 0}, {[3]int{21, 20, 21}, 1}, {[3]int{21, 20, 19}, 2}, {[3]int{20, 21, 20}, 0}, {[3]int{21, 20, 20}, 1}, {[3]int{22, 21, 21}, 1}} {
		s := manyAccounts(ops.New(), 11)
		s.Accounts[9], s.Accounts[0].Balance = api.Account{Balance: 90, Held: 9}, -90
		for _, until := range c.untils {
			s.Payments = append(s.Payments, api.Payment{From: 9, To: 10, Auth: 9, Until: until})
		}
		s.Now = 20
		goesBy(t, s, at(paid(held(s, 9, -9), c.closed, 0, 0, 0, api.Closed), 21))
	}
}

// A payment that can't be voided stays as it is, and does not keep the others from it.
func TestTickBehindAnError(t *testing.T) {
	s := base()
	s.Payments[0].Until, s.Payments[1].Until, s.Payments[4].Until = 21, 20, 19
	for _, p := range []api.Payment{{From: 8, To: 9, Auth: 5, Until: 3}, {From: 99, To: 9, Auth: 5, Until: 20}, {From: 12, To: 9, Auth: 5, Until: 19}, {From: 9, To: 10, Auth: 5, Captured: 5, Until: 1}} {
		s = pays(s, len(s.Payments), p)
	}
	want := held(held(s, 9, -40), 11, -40)
	for _, k := range []int{0, 1, 4} {
		want = paid(want, k, 0, 0, 0, api.Closed)
	}
	goesBy(t, s, at(want, 21))
}

func TestTickUpToTheLast(t *testing.T) {
	s := pays(base(), 5, api.Payment{From: 13, To: 14, Auth: 8, Until: ticks})
	s.Accounts[13].Held = 8
	for _, k := range []int{0, 1, 4} {
		s.Accounts[s.Payments[k].From].Held = 0
		s.Payments[k].Stage = api.Closed
	}
	before, now := at(s, ticks-2), at(s, ticks-1)
	goesBy(t, before, now)
	goesBy(t, now, at(paid(held(s, 13, -8), 5, 0, 0, 0, api.Closed), ticks))
	// At the last one nothing is done any more, also if a payment's time is over.
	goesBy(t, at(s, ticks), at(s, ticks))
	goesBy(t, at(base(), ticks), at(base(), ticks))
	goesBy(t, api.State{Now: ticks}, api.State{Now: ticks})
	if api.MaxTicks != ticks {
		t.Error(api.MaxTicks)
	}
}

// Now is any int: only 2^30 is the last one, and the greatest int is followed by the least (W5).
func TestTickFromAnywhere(t *testing.T) {
	for _, now := range []int{math.MinInt, -5, -1, ticks + 1, ticks + 2, amount, math.MaxInt - 1} {
		s := at(ops.New(), now)
		goesBy(t, s, at(s, now+1))
	}
	goesBy(t, at(base(), math.MaxInt), at(base(), math.MinInt))
	goesBy(t, at(base(), -3), at(base(), -2))
}
