package ops_test

import (
	"math"
	"slices"
	"testing"

	"hawala/api"
	"hawala/ops"
)

// P15.1: the payments' Ops

// noPayments are no indices, where there are five payments.
var noPayments = []int{math.MinInt, -5, -1, 5, 6, 9, 64, math.MaxInt}

func TestOfNoPayment(t *testing.T) {
	for _, op := range []api.Op{api.OpCapture, api.OpVoid, api.OpRefund, api.OpCharge} {
		for _, k := range noPayments {
			for _, n := range []int{1, 5, 0, -1, amount + 1} {
				r := api.Request{Op: op, A: k, Amount: n}
				fails(t, do, base(), r, api.ErrUnknown)
				fails(t, do, ops.New(), r, api.ErrUnknown)
				fails(t, do, api.State{}, r, api.ErrUnknown)
			}
		}
		fails(t, do, ops.New(), api.Request{Op: op, A: 0, Amount: 1}, api.ErrUnknown)
		fails(t, do, api.State{}, api.Request{Op: op, A: 0, Amount: 1}, api.ErrUnknown)
	}
}

// A payment's index is a number of the payments, not of the accounts.
func TestOfTheLastPayment(t *testing.T) {
	for _, n := range []int{1, 5, 63, 64, 65} {
		s := base()
		s.Payments = slices.Repeat(s.Payments[1:2], n)
		s.Accounts[9].Held = 10 * n
		s.Accounts[9].Balance = 10 * n
		s.Accounts[10].Balance = 100
		p := s.Payments[0]
		captured, refunded, charged, closed := p, p, p, p
		captured.Captured += 4
		refunded.Refunded += 4
		charged.Charged += 4
		closed.Stage = api.Closed
		for _, k := range []int{0, n - 1} {
			does(t, do, s, capture(k, 4), 0, pays(held(moved(s, 9, -4, 10, 4), 9, -4), k, captured))
			does(t, do, s, refund(k, 4), 0, pays(moved(s, 10, -4, 9, 4), k, refunded))
			does(t, do, s, charge(k, 4), 0, pays(moved(s, 10, -4, 9, 4), k, charged))
			does(t, do, s, void(k), 0, pays(held(s, 9, -10), k, closed))
		}
		for _, k := range []int{-1, n, n + 1} {
			fails(t, do, s, capture(k, 4), api.ErrUnknown)
			fails(t, do, s, refund(k, 4), api.ErrUnknown)
			fails(t, do, s, charge(k, 4), api.ErrUnknown)
			fails(t, do, s, void(k), api.ErrUnknown)
		}
	}
}

// P15.1: OpCapture

// paid is a state in which a payment's parts have grown, and that is Closed, or Open.
func paid(s api.State, k, captured, refunded, charged int, stage api.Stage) api.State {
	p := s.Payments[k]
	p.Captured += captured
	p.Refunded += refunded
	p.Charged += charged
	p.Stage = stage
	return pays(s, k, p)
}

func TestCapture(t *testing.T) {
	for n := 1; n <= 29; n++ {
		does(t, do, base(), capture(0, n), 0, paid(held(moved(base(), 9, -n, 10, n), 9, -n), 0, n, 0, 0, api.Open))
	}
	does(t, do, base(), capture(0, 30), 0, paid(held(moved(base(), 9, -30, 10, 30), 9, -30), 0, 30, 0, 0, api.Closed))
	for n := 1; n <= 9; n++ {
		does(t, do, base(), capture(1, n), 0, paid(held(moved(base(), 9, -n, 10, n), 9, -n), 1, n, 0, 0, api.Open))
	}
	does(t, do, base(), capture(1, 10), 0, paid(held(moved(base(), 9, -10, 10, 10), 9, -10), 1, 10, 0, 0, api.Closed))
	for _, n := range []int{31, 32, 100, amount, amount + 1, math.MaxInt} {
		fails(t, do, base(), capture(0, n), api.ErrState)
		fails(t, do, base(), capture(1, n), api.ErrState)
		fails(t, do, base(), capture(2, n), api.ErrState)
	}
	fails(t, do, base(), capture(1, 11), api.ErrState)
	for _, n := range []int{0, -1, -30, -amount, math.MinInt} {
		for k := range 5 {
			fails(t, do, base(), capture(k, n), api.ErrBad)
		}
	}
}

// Of a payment that is Closed nothing is captured, whether or not something was left.
func TestCaptureOfClosed(t *testing.T) {
	for _, n := range []int{1, 2, 5, 20, 21} {
		fails(t, do, base(), capture(2, n), api.ErrState)
		fails(t, do, base(), capture(3, n), api.ErrState)
	}
}

func TestCaptureInParts(t *testing.T) {
	s := base()
	for _, n := range []int{10, 5, 1, 13} {
		want := paid(held(moved(s, 9, -n, 10, n), 9, -n), 0, n, 0, 0, api.Open)
		does(t, do, s, capture(0, n), 0, want)
		s = want
	}
	fails(t, do, s, capture(0, 2), api.ErrState)
	does(t, do, s, capture(0, 1), 0, paid(held(moved(s, 9, -1, 10, 1), 9, -1), 0, 1, 0, 0, api.Closed))
}

// What is captured is taken from what is held: nothing need be free.
func TestCaptureWithNothingFree(t *testing.T) {
	s := moved(base(), 9, -60, 0, 60)
	fails(t, do, s, transfer(9, 10, 1), api.ErrInsufficient)
	does(t, do, s, capture(0, 30), 0, paid(held(moved(s, 9, -30, 10, 30), 9, -30), 0, 30, 0, 0, api.Closed))
	does(t, do, s, capture(1, 10), 0, paid(held(moved(s, 9, -10, 10, 10), 9, -10), 1, 10, 0, 0, api.Closed))
}

// large is base with one payment more, 5, of which all is left: nothing else is held of its From, and all the rest of it is free.
func large(a, b, n, free int) api.State {
	s := pays(base(), 5, api.Payment{From: a, To: b, Auth: n, Until: 50})
	was := s.Accounts[a].Balance
	s.Accounts[a].Balance, s.Accounts[a].Held = n+free, n
	s.Accounts[(a-9)/2*3].Balance += was - n - free
	return s
}

func TestCaptureInOtherCurrencies(t *testing.T) {
	for _, c := range conversions {
		for _, free := range []int{0, 4} {
			s := large(c.a, c.b, c.n, free)
			done := held(moved(s, move(c.a, c.b, c.n, c.converted)...), c.a, -c.n)
			does(t, do, s, capture(5, c.n), 0, paid(done, 5, c.n, 0, 0, api.Closed))
			s = large(c.a, c.b, c.n+1, free)
			done = held(moved(s, move(c.a, c.b, c.n, c.converted)...), c.a, -c.n)
			does(t, do, s, capture(5, c.n), 0, paid(done, 5, c.n, 0, 0, api.Open))
		}
	}
	for _, c := range tooLittle {
		fails(t, do, large(c.a, c.b, c.n, 0), capture(5, c.n), api.ErrBad)
		fails(t, do, large(c.a, c.b, 1000, 0), capture(5, c.n), api.ErrBad)
	}
	s := large(9, 13, amount, 0)
	fails(t, do, s, capture(5, amount/150+1), api.ErrOverflow)
	n := amount / 150
	does(t, do, s, capture(5, n), 0, paid(held(moved(s, move(9, 13, n, 150*n)...), 9, -n), 5, n, 0, 0, api.Open))
}

func TestCaptureUpToTheGreatestBalance(t *testing.T) {
	s := with(base(), 10, api.Account{Balance: balance - 5})
	does(t, do, s, capture(0, 5), 0, paid(held(moved(s, 9, -5, 10, 5), 9, -5), 0, 5, 0, 0, api.Open))
	fails(t, do, s, capture(0, 6), api.ErrOverflow)
	s = large(9, 10, amount, 0)
	does(t, do, s, capture(5, amount), 0, paid(held(moved(s, 9, -amount, 10, amount), 9, -amount), 5, amount, 0, 0, api.Closed))
}

// Of an account that has less held than the payment has left, no more than that is captured.
func TestCaptureOfWhatIsNotHeld(t *testing.T) {
	s := with(base(), 9, api.Account{Balance: 100, Held: 7})
	does(t, do, s, capture(0, 7), 0, paid(held(moved(s, 9, -7, 10, 7), 9, -7), 0, 7, 0, 0, api.Open))
	fails(t, do, s, capture(0, 8), api.ErrState)
}

// P15.1: OpVoid

func TestVoid(t *testing.T) {
	for _, n := range append([]int{1, 5, 30, 31}, noAmounts...) {
		for k, left := range []int{30, 10} {
			r := void(k)
			r.Amount = n
			does(t, do, base(), r, 0, paid(held(base(), 9, -left), k, 0, 0, 0, api.Closed))
		}
		r := void(4)
		r.Amount = n
		does(t, do, base(), r, 0, paid(held(base(), 11, -40), 4, 0, 0, 0, api.Closed))
		for _, k := range []int{2, 3} {
			r := void(k)
			r.Amount = n
			fails(t, do, base(), r, api.ErrState)
		}
	}
}

// Behind a part there is the rest to let go; behind all of it the payment is Closed.
func TestVoidBehindCaptures(t *testing.T) {
	for n := 1; n <= 30; n++ {
		s := ask(t, do, base(), capture(0, n)).s
		if n == 30 {
			fails(t, do, s, void(0), api.ErrState)
			continue
		}
		want := paid(held(s, 9, n-30), 0, 0, 0, 0, api.Closed)
		does(t, do, s, void(0), 0, want)
		fails(t, do, want, void(0), api.ErrState)
		fails(t, do, want, capture(0, 1), api.ErrState)
		does(t, do, want, refund(0, n), 0, paid(moved(want, 10, -n, 9, n), 0, 0, n, 0, api.Closed))
	}
}

// Of a payment that is open with nothing left there is nothing to let go: that is no amount.
func TestVoidOfNothing(t *testing.T) {
	s := pays(base(), 5, api.Payment{From: 9, To: 10, Auth: 6, Captured: 6, Until: 30})
	fails(t, do, s, void(5), api.ErrBad)
	s = with(base(), 9, api.Account{Balance: 100, Held: 29})
	fails(t, do, s, void(0), api.ErrState)
	does(t, do, s, void(1), 0, paid(held(s, 9, -10), 1, 0, 0, 0, api.Closed))
}

// A void asks for no entries: also what would come to nothing, or to too much, or to an account that is full, is let go.
func TestVoidWithoutEntries(t *testing.T) {
	for _, s := range []api.State{large(9, 11, 1, 0), large(9, 13, amount, 0), with(large(9, 10, 5, 0), 10, api.Account{Balance: balance})} {
		n := s.Payments[5].Auth
		does(t, do, s, void(5), 0, paid(held(s, 9, -n), 5, 0, 0, 0, api.Closed))
	}
}

// P15.1: OpRefund and OpCharge

// backs are the two Ops.
var backs = []api.Op{api.OpRefund, api.OpCharge}

// goneBack is a state in which an amount went back, as the Op says.
func goneBack(s api.State, op api.Op, k, n int) api.State {
	stage := s.Payments[k].Stage
	if op == api.OpRefund {
		return paid(s, k, 0, n, 0, stage)
	}
	return paid(s, k, 0, 0, n, stage)
}

func back(op api.Op, k, n int) api.Request {
	return api.Request{Key: 39, Op: op, A: k, Amount: n}
}

func TestBack(t *testing.T) {
	for _, op := range backs {
		for n := 1; n <= 12; n++ {
			does(t, do, base(), back(op, 1, n), 0, goneBack(moved(base(), 10, -n, 9, n), op, 1, n))
		}
		for n := 1; n <= 20; n++ {
			does(t, do, base(), back(op, 2, n), 0, goneBack(moved(base(), 10, -n, 9, n), op, 2, n))
		}
		for _, n := range []int{21, 22, 60, amount, amount + 1, math.MaxInt} {
			for k := range 5 {
				fails(t, do, base(), back(op, k, n), api.ErrState)
			}
		}
		fails(t, do, base(), back(op, 1, 13), api.ErrState)
		for _, n := range []int{1, 5, 30, 40} {
			// Nothing was captured.
			for _, k := range []int{0, 3, 4} {
				fails(t, do, base(), back(op, k, n), api.ErrState)
			}
		}
		for _, n := range []int{0, -1, -12, -amount, math.MinInt} {
			for k := range 5 {
				fails(t, do, base(), back(op, k, n), api.ErrBad)
			}
		}
	}
}

// What is left and what is held does not change; whether the payment is open does not matter.
func TestBackInParts(t *testing.T) {
	for _, first := range backs {
		for _, second := range backs {
			for k, gave := range []int{0, 12, 20} {
				for n := 1; n < gave; n++ {
					s := ask(t, do, base(), back(first, k, n)).s
					rest := gave - n
					fails(t, do, s, back(second, k, rest+1), api.ErrState)
					all := goneBack(moved(s, 10, -rest, 9, rest), second, k, rest)
					does(t, do, s, back(second, k, rest), 0, all)
					fails(t, do, all, back(first, k, 1), api.ErrState)
					fails(t, do, all, back(second, k, 1), api.ErrState)
				}
			}
		}
	}
}

// captured is base with one payment more, 5, all of it captured, and To's account as it is said.
func captured(a, b, n int, to api.Account) api.State {
	s := pays(base(), 5, api.Payment{From: a, To: b, Auth: n, Captured: n, Until: 50, Stage: api.Closed})
	s.Accounts[(b-9)/2*3].Balance += s.Accounts[b].Balance - to.Balance
	s.Accounts[b] = to
	return s
}

// A refund takes only what is free.
func TestRefundOfWhatIsFree(t *testing.T) {
	for _, c := range []struct{ balance, held int }{{0, 0}, {4, 0}, {9, 5}, {5, 5}, {8, 0}, {20, 11}} {
		s := captured(9, 10, 30, api.Account{Balance: c.balance, Held: c.held})
		free := c.balance - c.held
		if free > 0 {
			does(t, do, s, refund(5, free), 0, paid(moved(s, 10, -free, 9, free), 5, 0, free, 0, api.Closed))
		}
		fails(t, do, s, refund(5, free+1), api.ErrInsufficient)
		fails(t, do, s, refund(5, 30), api.ErrInsufficient)
	}
}

// What a charge can't take from To, because it is not there or is held, the house bears.
func TestChargeOfWhatIsNotFree(t *testing.T) {
	for _, c := range []struct{ balance, held int }{{0, 0}, {4, 0}, {9, 5}, {5, 5}, {8, 0}, {20, 11}, {30, 0}, {29, 0}, {31, 0}, {60, 31}, {60, 30}} {
		s := captured(9, 10, 30, api.Account{Balance: c.balance, Held: c.held})
		free := c.balance - c.held
		for n := 1; n <= 30; n++ {
			took := min(n, free)
			want := paid(moved(s, 10, -took, 2, took-n, 9, n), 5, 0, 0, n, api.Closed)
			does(t, do, s, charge(5, n), 0, want)
		}
	}
}

// In two charges the house bears what the second one can't take.
func TestChargeTwice(t *testing.T) {
	s := captured(9, 10, 30, api.Account{Balance: 12, Held: 2})
	once := paid(moved(s, 10, -7, 9, 7), 5, 0, 0, 7, api.Closed)
	does(t, do, s, charge(5, 7), 0, once)
	twice := paid(moved(once, 10, -3, 2, -20, 9, 23), 5, 0, 0, 23, api.Closed)
	does(t, do, once, charge(5, 23), 0, twice)
	fails(t, do, twice, charge(5, 1), api.ErrState)
}

// backwards are the pairs of what goes back, in the chapter's order, with what the house bears.
func backwards(a, b, n, converted, free int) []int {
	x, y := (a-9)/2, (b-9)/2
	took := min(converted, free)
	ns := []int{b, -took}
	if x != y {
		ns = append(ns, 3*y+1, converted, 3*x+1, -n)
	}
	return append(ns, a, n, 3*y+2, took-converted)
}

func TestBackInOtherCurrencies(t *testing.T) {
	for _, c := range conversions {
		cur := (c.b - 9) / 2
		for _, free := range []int{0, 1, c.converted / 2, c.converted - 1, c.converted, c.converted + 1} {
			for _, kept := range []int{0, 6} {
				s := captured(c.a, c.b, c.n, api.Account{Cur: cur, Balance: free + kept, Held: kept})
				want := moved(s, backwards(c.a, c.b, c.n, c.converted, free)...)
				does(t, do, s, charge(5, c.n), 0, paid(want, 5, 0, 0, c.n, api.Closed))
				if free < c.converted {
					fails(t, do, s, refund(5, c.n), api.ErrInsufficient)
				} else {
					does(t, do, s, refund(5, c.n), 0, paid(want, 5, 0, c.n, 0, api.Closed))
				}
			}
		}
	}
	for _, op := range backs {
		for _, c := range tooLittle {
			s := captured(c.a, c.b, 1000, base().Accounts[c.b])
			fails(t, do, s, back(op, 5, c.n), api.ErrBad)
		}
		s := captured(9, 13, amount, base().Accounts[13])
		fails(t, do, s, back(op, 5, amount/150+1), api.ErrOverflow)
	}
}

// The house bears up to the least balance; From takes up to the greatest one.
func TestBackUpToTheGreatestBalance(t *testing.T) {
	for _, op := range backs {
		s := captured(9, 10, 30, api.Account{Balance: 30})
		s.Accounts[9] = api.Account{Balance: balance - 5}
		does(t, do, s, back(op, 5, 5), 0, goneBack(moved(s, 10, -5, 9, 5), op, 5, 5))
		fails(t, do, s, back(op, 5, 6), api.ErrOverflow)
	}
	s := captured(9, 10, 30, api.Account{Balance: 8})
	s.Accounts[2].Balance = 5 - balance
	does(t, do, s, charge(5, 13), 0, paid(moved(s, 10, -8, 2, -5, 9, 13), 5, 0, 0, 13, api.Closed))
	fails(t, do, s, charge(5, 14), api.ErrOverflow)
	does(t, do, s, refund(5, 8), 0, paid(moved(s, 10, -8, 9, 8), 5, 0, 8, 0, api.Closed))
	// Where there is nothing left for it, the Loss account is not asked.
	s.Accounts[2].Balance = -balance - 1
	does(t, do, s, charge(5, 8), 0, paid(moved(s, 10, -8, 9, 8), 5, 0, 0, 8, api.Closed))
	fails(t, do, s, charge(5, 9), api.ErrOverflow)
	s = captured(9, 10, amount, api.Account{})
	does(t, do, s, charge(5, amount), 0, paid(moved(s, 2, -amount, 9, amount), 5, 0, 0, amount, api.Closed))
	s = captured(9, 10, amount, api.Account{Balance: balance})
	does(t, do, s, charge(5, amount), 0, paid(moved(s, 10, -amount, 9, amount), 5, 0, 0, amount, api.Closed))
	does(t, do, s, refund(5, amount), 0, paid(moved(s, 10, -amount, 9, amount), 5, 0, amount, 0, api.Closed))
}

// P15.1: where two errors apply, the chapter's first one is returned

func TestErrorsInOrderOfDeposit(t *testing.T) {
	low := with(base(), 0, api.Account{Balance: -balance})
	for _, n := range noAmounts {
		fails(t, do, base(), deposit(8, n), api.ErrUnknown)
		fails(t, do, base(), deposit(15, n), api.ErrUnknown)
		fails(t, do, low, deposit(9, n), api.ErrBad)
	}
	fails(t, do, low, deposit(15, 1), api.ErrUnknown)
	fails(t, do, low, deposit(8, 1), api.ErrUnknown)
	fails(t, do, low, deposit(9, 1), api.ErrOverflow)
	// A client who is short is found only behind what goes over.
	short := with(low, 10, api.Account{Balance: 4, Held: 5})
	fails(t, do, short, deposit(9, 1), api.ErrOverflow)
	fails(t, do, with(base(), 10, api.Account{Balance: 4, Held: 5}), deposit(9, 1), api.ErrInsufficient)
}

func TestErrorsInOrderOfTransfer(t *testing.T) {
	full := with(base(), 10, api.Account{Balance: balance})
	for _, n := range []int{0, -1, amount + 1, 61, 1} {
		fails(t, do, full, transfer(9, 15, n), api.ErrUnknown)
		fails(t, do, full, transfer(8, 10, n), api.ErrUnknown)
		fails(t, do, full, transfer(8, 8, n), api.ErrUnknown)
		fails(t, do, full, transfer(9, 9, n), api.ErrBad)
		fails(t, do, full, transfer(-1, -1, n), api.ErrUnknown)
	}
	for _, n := range noAmounts {
		fails(t, do, full, transfer(9, 10, n), api.ErrBad)
		fails(t, do, full, transfer(12, 10, n), api.ErrBad)
	}
	// Too much to be changed, more than is free, and more than the greatest balance.
	fails(t, do, base(), transfer(9, 14, amount), api.ErrOverflow)
	fails(t, do, full, transfer(9, 10, 61), api.ErrOverflow)
	fails(t, do, base(), transfer(14, 9, 150), api.ErrBad)
	fails(t, do, base(), transfer(14, 9, 151), api.ErrInsufficient)
}

func TestErrorsInOrderOfAuth(t *testing.T) {
	limit := manyPayments(base(), 64)
	// No client, and each of the others, or all.
	for _, k := range []int{8, 15, -1} {
		for _, s := range []api.State{base(), limit} {
			fails(t, do, s, auth(k, k, 5, 21), api.ErrUnknown)
			fails(t, do, s, auth(k, 9, 5, 20), api.ErrUnknown)
			fails(t, do, s, auth(9, k, 5, 21), api.ErrUnknown)
			fails(t, do, s, auth(9, k, 0, 21), api.ErrUnknown)
			fails(t, do, s, auth(9, k, 61, 21), api.ErrUnknown)
			fails(t, do, s, auth(k, k, 0, 20), api.ErrUnknown)
		}
	}
	// The same account, or the time, and each of the others.
	fails(t, do, limit, auth(9, 9, 5, 21), api.ErrBad)
	fails(t, do, limit, auth(9, 10, 5, 20), api.ErrBad)
	fails(t, do, limit, auth(9, 9, 61, 21), api.ErrBad)
	fails(t, do, base(), auth(9, 9, 61, 21), api.ErrBad)
	fails(t, do, base(), auth(9, 10, 61, 20), api.ErrBad)
	fails(t, do, base(), auth(9, 9, 5, 20), api.ErrBad)
	// The limit, and what is wrong with the amount.
	for _, n := range append([]int{61, amount}, noAmounts...) {
		fails(t, do, limit, auth(9, 10, n, 21), api.ErrLimit)
	}
	// What is no amount, and is not free either.
	fails(t, do, base(), auth(12, 10, amount+1, 21), api.ErrBad)
	fails(t, do, base(), auth(12, 10, math.MaxInt, 21), api.ErrBad)
}

func TestErrorsInOrderOfPayments(t *testing.T) {
	// ErrBad of payment.Do ahead of ErrState, and both ahead of what the accounts say.
	for _, op := range []api.Op{api.OpCapture, api.OpRefund, api.OpCharge} {
		fails(t, do, base(), api.Request{Op: op, A: 3, Amount: 0}, api.ErrBad)
		fails(t, do, base(), api.Request{Op: op, A: 5, Amount: 0}, api.ErrUnknown)
		fails(t, do, base(), api.Request{Op: op, A: -1, Amount: -1}, api.ErrUnknown)
	}
	// To comes to nothing in the other currency, or to too much, and more than is left.
	fails(t, do, pays(base(), 5, api.Payment{From: 9, To: 11, Auth: 1, Captured: 1, Stage: api.Closed}), capture(5, 1), api.ErrState)
	fails(t, do, large(9, 11, 1, 0), refund(5, 1), api.ErrState)
	fails(t, do, large(9, 11, 1, 0), charge(5, 1), api.ErrState)
	fails(t, do, large(9, 13, amount, 0), capture(5, amount+1), api.ErrState)
	fails(t, do, large(9, 13, amount, 0), refund(5, amount), api.ErrState)
	// Too much to be changed, and not held; too little, and not held.
	fails(t, do, with(large(9, 13, amount, 0), 9, api.Account{Balance: 5}), capture(5, amount), api.ErrOverflow)
	fails(t, do, with(large(9, 11, 1, 0), 9, api.Account{Balance: 5}), capture(5, 1), api.ErrBad)
	// Not held, and over the greatest balance.
	full := with(base(), 10, api.Account{Balance: balance})
	fails(t, do, with(full, 9, api.Account{Balance: 100}), capture(0, 5), api.ErrState)
	fails(t, do, full, capture(0, 5), api.ErrOverflow)
	// Over the greatest balance, and not free.
	over := captured(9, 10, 30, api.Account{Balance: 3})
	over.Accounts[9] = api.Account{Balance: balance}
	fails(t, do, over, refund(5, 4), api.ErrOverflow)
	fails(t, do, over, charge(5, 4), api.ErrOverflow)
	over.Accounts[9] = api.Account{Balance: balance - 4}
	fails(t, do, over, refund(5, 4), api.ErrInsufficient)
	// Too little, and not free.
	fails(t, do, captured(9, 11, 1000, api.Account{Cur: 1}), refund(5, 1), api.ErrBad)
	fails(t, do, captured(9, 11, 1000, api.Account{Cur: 1}), charge(5, 1), api.ErrBad)
	// A payment that is closed of an account that is none.
	lost := pays(base(), 5, api.Payment{From: 9, To: 99, Auth: 5, Stage: api.Closed})
	fails(t, do, lost, capture(5, 1), api.ErrState)
	fails(t, do, lost, void(5), api.ErrState)
}

// What stands in a payment that no operation makes can do no harm.
func TestPaymentsThatMayNotBe(t *testing.T) {
	for _, k := range []int{math.MinInt, -1, 15, math.MaxInt} {
		for _, p := range []api.Payment{{From: k, To: 10, Auth: 9, Captured: 4}, {From: 9, To: k, Auth: 9, Captured: 4}, {From: k, To: k, Auth: 9, Captured: 4}} {
			s := pays(base(), 5, p)
			for _, r := range []api.Request{capture(5, 3), refund(5, 3), charge(5, 3)} {
				fails(t, do, s, r, api.ErrUnknown)
			}
			if p.From == 9 {
				does(t, do, s, void(5), 0, paid(held(s, 9, -5), 5, 0, 0, 0, api.Closed))
			} else {
				fails(t, do, s, void(5), api.ErrUnknown)
			}
		}
	}
	same := pays(base(), 5, api.Payment{From: 9, To: 9, Auth: 9, Captured: 4})
	for _, r := range []api.Request{capture(5, 3), refund(5, 3), charge(5, 3)} {
		fails(t, do, same, r, api.ErrBad)
	}
	does(t, do, same, void(5), 0, paid(held(same, 9, -5), 5, 0, 0, 0, api.Closed))
	// Nobody holds anything of the house, and the house need have nothing free.
	house := pays(base(), 5, api.Payment{From: 1, To: 9, Auth: 9, Captured: 4})
	fails(t, do, house, capture(5, 3), api.ErrUnknown)
	fails(t, do, house, void(5), api.ErrUnknown)
	does(t, do, house, refund(5, 3), 0, paid(moved(house, 9, -3, 1, 3), 5, 0, 3, 0, api.Open))
}
