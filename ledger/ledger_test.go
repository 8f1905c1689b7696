package ledger_test

import (
	"errors"
	"math"
	"slices"
	"testing"

	"hawala/api"
	"hawala/chart"
	"hawala/entry"
	"hawala/ledger"
)

const (
	balance = 1 << 50
	amount  = 1 << 40
)

// accounts are the house's nine, and two clients' of each currency: 9 and 10, 11 and 12, 13 and 14. The last index is 14.
func accounts() []api.Account {
	return []api.Account{
		{Cur: 0, Balance: -160}, {Cur: 0}, {Cur: 0},
		{Cur: 1, Balance: -50}, {Cur: 1}, {Cur: 1},
		{Cur: 2, Balance: -balance}, {Cur: 2}, {Cur: 2},
		{Cur: 0, Balance: 100, Held: 40}, {Cur: 0, Balance: 60},
		{Cur: 1, Balance: 50, Held: 50}, {Cur: 1},
		{Cur: 2, Balance: balance, Held: 7}, {Cur: 2},
	}
}

// with is accounts with one of them changed.
func with(k int, a api.Account) []api.Account {
	as := accounts()
	as[k] = a
	return as
}

// of makes entries of pairs: an account, an amount.
func of(ns ...int) []api.Entry {
	es := []api.Entry{}
	for k := 0; k+1 < len(ns); k += 2 {
		es = append(es, api.Entry{Account: ns[k], Amount: ns[k+1]})
	}
	return es
}

// moved is accounts with what pairs say added to the Balances.
func moved(as []api.Account, ns ...int) []api.Account {
	as = slices.Clone(as)
	for k := 0; k+1 < len(ns); k += 2 {
		as[ns[k]].Balance += ns[k+1]
	}
	return as
}

// held is accounts with n added to a Held.
func held(as []api.Account, k, n int) []api.Account {
	as = slices.Clone(as)
	as[k].Held += n
	return as
}

// answer is what each of the functions returns.
type answer struct {
	as  []api.Account
	err error
}

func post(as []api.Account, es []api.Entry) answer {
	after, err := ledger.Post(as, es)
	return answer{after, err}
}

func hold(as []api.Account, k, n int) answer {
	after, err := ledger.Hold(as, k, n)
	return answer{after, err}
}

func release(as []api.Account, k, n int) answer {
	after, err := ledger.Release(as, k, n)
	return answer{after, err}
}

func spend(as []api.Account, n int, es []api.Entry) answer {
	after, err := ledger.Spend(as, n, es)
	return answer{after, err}
}

func (a answer) is(t *testing.T, want []api.Account) {
	t.Helper()
	if a.err != nil || !slices.Equal(a.as, want) {
		t.Errorf("%v, %v, not %v", a.as, a.err, want)
	}
}

func (a answer) fails(t *testing.T, want api.Errno) {
	t.Helper()
	if len(a.as) != 0 || !errors.Is(a.err, want) {
		t.Errorf("%v, %v, not %v", a.as, a.err, want)
	}
}

// P9.1: Post

func TestPost(t *testing.T) {
	for _, ns := range [][]int{
		{9, -30, 10, 30},
		{10, 30, 9, -30},
		{0, -7, 9, 7},
		{9, -7, 0, 7},
		{9, 0},
		{9, 0, 11, 0, 8, 0},
		{10, -10, 1, 10, 4, -9, 12, 9},
		{0, -1, 9, 1, 3, -2, 12, 2, 8, -3, 14, 3},
		{1, -1000, 2, 1000},
		{10, -60, 9, 60},
		{13, -balance + 7, 14, balance - 7},
	} {
		post(accounts(), of(ns...)).is(t, moved(accounts(), ns...))
	}
}

func TestPostOfNone(t *testing.T) {
	for _, es := range [][]api.Entry{nil, {}} {
		post(accounts(), es).is(t, accounts())
		post(chart.New(), es).is(t, chart.New())
		post(nil, es).is(t, nil)
		post([]api.Account{}, es).is(t, nil)
	}
}

func TestPostSeveralOfOneAccount(t *testing.T) {
	for _, ns := range [][]int{
		{9, 5, 9, -5},
		{9, -60, 9, 60},
		{10, -20, 9, 10, 10, -20, 9, 30},
		{0, -1, 0, -2, 9, 1, 9, 2, 9, 0},
		{10, -10, 10, -50, 9, 60},
	} {
		post(accounts(), of(ns...)).is(t, moved(accounts(), ns...))
	}
	// Together they are more than is free, though each alone is not.
	post(accounts(), of(10, -30, 9, 30, 10, -31, 9, 31)).fails(t, api.ErrInsufficient)
}

func TestPostNotBalanced(t *testing.T) {
	for _, es := range [][]api.Entry{
		of(9, 1),
		of(9, -1),
		of(9, -30, 10, 29),
		of(9, -30, 10, 31),
		of(9, 30, 10, 30),
		of(10, -5, 12, 5),
		of(10, -5, 14, 5),
		of(9, 5, 10, -5, 12, 1),
		of(-1, 0),
		of(15, 0),
		of(-1, 5, 9, -5),
		of(9, -5, 15, 5),
		of(math.MaxInt, 0),
		of(math.MinInt, 0),
		of(9, balance+1, 9, -balance-1),
		of(9, math.MinInt, 9, math.MinInt),
		of(9, balance, 9, 1, 9, -1, 9, -balance),
	} {
		post(accounts(), es).fails(t, api.ErrArgument)
	}
	post(nil, of(0, 0)).fails(t, api.ErrArgument)
	post([]api.Account{}, of(0, 0)).fails(t, api.ErrArgument)
	// What stands in the room behind a slice's length is not there.
	post(accounts()[:10], of(9, -5, 10, 5)).fails(t, api.ErrArgument)
	for _, cur := range []int{-1, 3, math.MaxInt, math.MinInt} {
		as := append(accounts(), api.Account{Cur: cur}, api.Account{Cur: cur})
		post(as, of(15, 0)).fails(t, api.ErrArgument)
		post(as, of(15, 1, 16, -1)).fails(t, api.ErrArgument)
		// Such an account harms only if an entry is of it.
		post(as, of(9, -1, 10, 1)).is(t, moved(as, 9, -1, 10, 1))
	}
}

func TestPostGreatestAndLeastBalances(t *testing.T) {
	client := with(10, api.Account{Balance: balance - 5})
	post(client, of(9, -4, 10, 4)).is(t, moved(client, 9, -4, 10, 4))
	post(client, of(9, -5, 10, 5)).is(t, moved(client, 9, -5, 10, 5))
	post(client, of(9, -6, 10, 6)).fails(t, api.ErrOverflow)
	post(client, of(10, 6, 9, -6)).fails(t, api.ErrOverflow)
	for _, k := range []int{0, 1, 3, 4, 6, 7} {
		cur := accounts()[k].Cur
		other := 3*cur + 2
		high := with(k, api.Account{Cur: cur, Balance: balance - 5})
		post(high, of(k, 5, other, -5)).is(t, moved(high, k, 5, other, -5))
		post(high, of(k, 6, other, -6)).fails(t, api.ErrOverflow)
		post(high, of(other, -6, k, 6)).fails(t, api.ErrOverflow)
		low := with(k, api.Account{Cur: cur, Balance: 5 - balance})
		post(low, of(k, -5, other, 5)).is(t, moved(low, k, -5, other, 5))
		post(low, of(k, -6, other, 6)).fails(t, api.ErrOverflow)
		post(low, of(other, 6, k, -6)).fails(t, api.ErrOverflow)
	}
	post(accounts(), of(6, -1, 14, 1)).fails(t, api.ErrOverflow)
	post(accounts(), of(6, 1, 13, -1)).is(t, moved(accounts(), 6, 1, 13, -1))
	post(accounts(), of(7, balance, 8, -balance)).is(t, moved(accounts(), 7, balance, 8, -balance))
	post(accounts(), of(6, balance, 7, -balance)).is(t, moved(accounts(), 6, balance, 7, -balance))
}

// The Amounts are added one by one: what goes over on the way is refused, though the last sum would not be.
func TestPostOnTheWay(t *testing.T) {
	full := with(10, api.Account{Balance: balance})
	post(full, of(9, -1, 10, 1, 10, -1, 9, 1)).fails(t, api.ErrOverflow)
	post(full, of(10, 1, 10, -1)).fails(t, api.ErrOverflow)
	post(full, of(10, -1, 10, 1)).is(t, full)
	post(full, of(10, -1, 9, 1, 9, -1, 10, 1)).is(t, full)
	post(accounts(), of(6, -1, 6, 1)).fails(t, api.ErrOverflow)
	post(accounts(), of(6, 1, 6, -1)).is(t, accounts())
	post(accounts(), of(0, 1, 6, -1, 0, -1, 6, 1)).fails(t, api.ErrOverflow)
	one := with(1, api.Account{Balance: 1})
	post(one, of(1, balance, 1, -balance)).fails(t, api.ErrOverflow)
	post(one, of(1, -balance, 1, balance)).is(t, one)
}

// A Balance that no account may have stands in the way of an entry of it, even of 0, and of no other.
func TestPostOfBalancesThatMayNotBe(t *testing.T) {
	for _, n := range []int{balance + 1, -balance - 1, math.MaxInt, math.MinInt} {
		as := with(2, api.Account{Balance: n})
		post(as, of(2, 0)).fails(t, api.ErrOverflow)
		post(as, of(2, 1, 0, -1)).fails(t, api.ErrOverflow)
		post(as, of(2, -1, 0, 1)).fails(t, api.ErrOverflow)
		post(as, of(0, 1, 1, -1)).is(t, moved(as, 0, 1, 1, -1))
		post(as, nil).is(t, as)
	}
}

// A client may have nothing free behind the entries, but not less. The Loss account of the currency takes what goes.
func TestPostWhatIsFree(t *testing.T) {
	for _, c := range []struct{ k, loss, free int }{
		{9, 2, 60}, {10, 2, 60}, {11, 5, 0}, {12, 5, 0}, {13, 8, balance - 7}, {14, 8, 0},
	} {
		for _, n := range []int{0, c.free / 2, c.free} {
			post(accounts(), of(c.k, -n, c.loss, n)).is(t, moved(accounts(), c.k, -n, c.loss, n))
		}
		n := c.free + 1
		post(accounts(), of(c.k, -n, c.loss, n)).fails(t, api.ErrInsufficient)
		post(accounts(), of(c.loss, n, c.k, -n)).fails(t, api.ErrInsufficient)
		post(accounts(), of(c.loss, n, c.k, -1, c.k, -c.free)).fails(t, api.ErrInsufficient)
	}
}

// Only what is there behind all entries counts: a client may have less on the way, even less than nothing.
func TestPostWhatIsFreeOnTheWay(t *testing.T) {
	for _, ns := range [][]int{
		{9, -61, 10, 61, 9, 1, 10, -1},
		{9, -1000, 9, 1000},
		{12, -balance, 12, balance},
		{14, -1, 8, 1, 14, 1, 8, -1},
		{11, -50, 3, 50, 11, 60, 3, -60},
	} {
		post(accounts(), of(ns...)).is(t, moved(accounts(), ns...))
	}
	post(accounts(), of(9, -61, 10, 61, 9, 1, 10, -1, 9, -1, 10, 1)).fails(t, api.ErrInsufficient)
	post(accounts(), of(9, 1, 10, -1, 9, -62, 10, 62)).fails(t, api.ErrInsufficient)
}

// The last account of a list is asked as the first one is.
func TestPostOfTheLastClient(t *testing.T) {
	for _, n := range []int{10, 11, 64, 65, 100} {
		as := chart.New()
		for len(as) < n {
			as = append(as, api.Account{Balance: 5, Held: 2})
		}
		post(as, of(n-1, -3, 0, 3)).is(t, moved(as, n-1, -3, 0, 3))
		post(as, of(n-1, -4, 0, 4)).fails(t, api.ErrInsufficient)
		post(as, of(9, -3, 0, 3)).is(t, moved(as, 9, -3, 0, 3))
		post(as, of(9, -4, 0, 4)).fails(t, api.ErrInsufficient)
	}
}

// The house's accounts may have less than nothing, and what a list says is held of one is not asked.
func TestPostOfTheHouse(t *testing.T) {
	for k := range 9 {
		own := 9 + 2*(k/3)
		for _, n := range []int{1, 50, 1000, amount} {
			as := with(k, api.Account{Cur: k / 3})
			post(as, of(k, -n, own+1, n)).is(t, moved(as, k, -n, own+1, n))
			post(held(as, k, n), of(k, -n, own+1, n)).is(t, moved(held(as, k, n), k, -n, own+1, n))
		}
	}
	short := []api.Account{{Cur: 0}, {Cur: 0, Held: 9}}
	post(short, of(0, -5, 1, 5)).is(t, moved(short, 0, -5, 1, 5))
	post(short, of(0, 5, 1, -5)).is(t, moved(short, 0, 5, 1, -5))
}

// A client who has less than nothing free is refused, whether or not an entry is of that account, unless the entries bring enough.
func TestPostWithAClientWhoIsShort(t *testing.T) {
	for _, a := range []api.Account{{Balance: 4, Held: 5}, {Balance: -1}, {Balance: math.MaxInt, Held: -1}} {
		as := with(10, a)
		post(as, nil).fails(t, api.ErrInsufficient)
		post(as, of(9, 0)).fails(t, api.ErrInsufficient)
		post(as, of(11, 5, 3, -5)).fails(t, api.ErrInsufficient)
	}
	as := with(10, api.Account{Balance: 4, Held: 5})
	post(as, of(10, 1, 9, -1)).is(t, moved(as, 10, 1, 9, -1))
	post(as, of(10, -1, 9, 1)).fails(t, api.ErrInsufficient)
	post(with(10, api.Account{Balance: -5}), of(10, 4, 9, -4)).fails(t, api.ErrInsufficient)
	as = with(10, api.Account{Balance: -5})
	post(as, of(10, 5, 9, -5)).is(t, moved(as, 10, 5, 9, -5))
}

// Where two errors apply, the chapter's first one is returned.
func TestPostErrorsInOrder(t *testing.T) {
	full := with(10, api.Account{Balance: balance})
	// Not balanced, and one beyond the greatest.
	post(full, of(10, 1)).fails(t, api.ErrArgument)
	post(full, of(10, 1, 9, -2)).fails(t, api.ErrArgument)
	post(full, of(10, 1, 9, -1, 15, 0)).fails(t, api.ErrArgument)
	// Not balanced, and more than is free.
	post(accounts(), of(9, -61)).fails(t, api.ErrArgument)
	post(accounts(), of(9, -61, 10, 60)).fails(t, api.ErrArgument)
	post(accounts(), of(9, -61, 10, 61, -1, 0)).fails(t, api.ErrArgument)
	// One beyond the greatest, and more than is free, whichever entry is the first.
	post(full, of(9, -61, 10, 61)).fails(t, api.ErrOverflow)
	post(full, of(10, 61, 9, -61)).fails(t, api.ErrOverflow)
	post(full, of(9, -61, 2, 61, 10, 1, 2, -1)).fails(t, api.ErrOverflow)
	post(with(10, api.Account{Balance: -balance}), of(10, -1, 9, 1)).fails(t, api.ErrOverflow)
	// All three.
	post(full, of(9, -61, 10, 62)).fails(t, api.ErrArgument)
}

// P9.2: Hold and Release

func TestHold(t *testing.T) {
	for _, c := range []struct{ k, free int }{{9, 60}, {10, 60}, {13, balance - 7}} {
		for _, n := range []int{1, 2, 30, 59, 60} {
			hold(accounts(), c.k, n).is(t, held(accounts(), c.k, n))
		}
		if c.free < amount {
			hold(accounts(), c.k, c.free).is(t, held(accounts(), c.k, c.free))
			hold(accounts(), c.k, c.free+1).fails(t, api.ErrInsufficient)
			hold(accounts(), c.k, amount).fails(t, api.ErrInsufficient)
		}
	}
	hold(accounts(), 11, 1).fails(t, api.ErrInsufficient)
	hold(accounts(), 12, 1).fails(t, api.ErrInsufficient)
	hold(with(10, api.Account{Balance: 4, Held: 5}), 10, 1).fails(t, api.ErrInsufficient)
	hold(with(10, api.Account{Balance: -1}), 10, 1).fails(t, api.ErrInsufficient)
}

func TestRelease(t *testing.T) {
	for _, c := range []struct{ k, held int }{{9, 40}, {11, 50}, {13, 7}} {
		for _, n := range []int{1, 2, c.held - 1, c.held} {
			release(accounts(), c.k, n).is(t, held(accounts(), c.k, -n))
		}
		release(accounts(), c.k, c.held+1).fails(t, api.ErrState)
		release(accounts(), c.k, amount).fails(t, api.ErrState)
	}
	for _, k := range []int{10, 12, 14} {
		release(accounts(), k, 1).fails(t, api.ErrState)
	}
	release(with(10, api.Account{Held: -1}), 10, 1).fails(t, api.ErrState)
	// What is held is asked, not what is there.
	short := with(10, api.Account{Balance: 4, Held: 5})
	release(short, 10, 1).is(t, held(short, 10, -1))
	release(short, 10, 5).is(t, held(short, 10, -5))
}

func TestHoldsOfTheLeastAndTheGreatestAmount(t *testing.T) {
	free := with(10, api.Account{Balance: balance})
	all := with(10, api.Account{Balance: balance, Held: balance})
	for _, n := range []int{1, amount - 1, amount} {
		hold(free, 10, n).is(t, held(free, 10, n))
		release(all, 10, n).is(t, held(all, 10, -n))
		hold(held(all, 10, -n), 10, n).is(t, all)
		release(held(free, 10, n), 10, n).is(t, free)
	}
	for _, n := range []int{0, -1, -5, -amount, amount + 1, balance, balance + 1, math.MaxInt, math.MinInt} {
		hold(free, 10, n).fails(t, api.ErrBad)
		release(all, 10, n).fails(t, api.ErrBad)
	}
}

func TestHoldsOfWhoIsNoClient(t *testing.T) {
	for _, n := range []int{9, 10, 11, 15} {
		as := accounts()[:n]
		for k := range as {
			as[k].Balance, as[k].Held = 100, 50
		}
		for _, k := range []int{-1, -2, -9, math.MinInt, 0, 4, 7, 8, n, n + 1, math.MaxInt} {
			for _, m := range []int{1, 5, 50} {
				hold(as, k, m).fails(t, api.ErrUnknown)
				release(as, k, m).fails(t, api.ErrUnknown)
			}
		}
		if n == 9 {
			continue
		}
		for _, k := range []int{9, n - 1} {
			hold(as, k, 50).is(t, held(as, k, 50))
			release(as, k, 50).is(t, held(as, k, -50))
		}
	}
	for _, as := range [][]api.Account{nil, {}, {{Balance: 100, Held: 50}}} {
		for _, k := range []int{-1, 0, 1, 9} {
			hold(as, k, 1).fails(t, api.ErrUnknown)
			release(as, k, 1).fails(t, api.ErrUnknown)
		}
	}
}

// Another account that is short, or of no currency, is not asked; neither is the Cur of the one that is.
func TestHoldsWhateverOthersHave(t *testing.T) {
	as := append(accounts(), api.Account{Cur: -1, Balance: 50, Held: 20}, api.Account{Balance: math.MinInt, Held: 5})
	hold(as, 15, 30).is(t, held(as, 15, 30))
	hold(as, 15, 31).fails(t, api.ErrInsufficient)
	release(as, 15, 20).is(t, held(as, 15, -20))
	release(as, 15, 21).fails(t, api.ErrState)
	hold(as, 9, 60).is(t, held(as, 9, 60))
	release(as, 9, 40).is(t, held(as, 9, -40))
}

// What no account may have wraps around, as an int does (W5).
func TestHoldsThatWrapAround(t *testing.T) {
	as := with(10, api.Account{Balance: math.MinInt, Held: math.MaxInt})
	hold(as, 10, 1).is(t, with(10, api.Account{Balance: math.MinInt, Held: math.MinInt}))
	hold(as, 10, 2).fails(t, api.ErrInsufficient)
	as = with(10, api.Account{Balance: math.MaxInt, Held: -1})
	hold(as, 10, 1).fails(t, api.ErrInsufficient)
	as = with(10, api.Account{Balance: math.MinInt, Held: 1})
	release(as, 10, 1).is(t, with(10, api.Account{Balance: math.MinInt}))
}

// Where two errors apply, the chapter's first one is returned.
func TestHoldErrorsInOrder(t *testing.T) {
	for _, k := range []int{-1, 0, 8, 15} {
		for _, n := range []int{0, -1, amount + 1, amount} {
			// No client, and no amount, or more than is free or held.
			hold(accounts(), k, n).fails(t, api.ErrUnknown)
			release(accounts(), k, n).fails(t, api.ErrUnknown)
		}
	}
	for _, n := range []int{amount + 1, balance + 1, math.MaxInt} {
		// No amount, and more than is free or held.
		hold(accounts(), 9, n).fails(t, api.ErrBad)
		release(accounts(), 9, n).fails(t, api.ErrBad)
	}
	// No amount, which is more than is free or held where that is less than nothing.
	hold(with(10, api.Account{Balance: -9}), 10, 0).fails(t, api.ErrBad)
	hold(with(10, api.Account{Balance: -9}), 10, -1).fails(t, api.ErrBad)
	release(with(10, api.Account{Held: -9}), 10, 0).fails(t, api.ErrBad)
	release(with(10, api.Account{Held: -9}), 10, -1).fails(t, api.ErrBad)
}

// P9.3: Spend

func TestSpend(t *testing.T) {
	for _, c := range []struct {
		n  int
		ns []int
	}{
		{40, []int{9, -40, 10, 40}},
		{40, []int{9, -100, 2, 100}},
		{40, []int{9, -1, 10, 1}},
		{1, []int{9, -61, 10, 61}},
		{30, []int{9, -10, 10, 10}},
		{50, []int{11, -50, 4, 50, 1, -55, 10, 55}},
		{7, []int{13, -balance, 14, balance}},
		// The first entry alone names the account of which is released: also by 0, and by what comes to it.
		{40, []int{9, 0}},
		{40, []int{9, 0, 10, -60, 9, 60}},
		{40, []int{9, 60, 10, -60}},
		{10, []int{9, -5, 9, 5}},
		{7, []int{13, 0, 9, -60, 10, 60}},
	} {
		k := c.ns[0]
		spend(accounts(), c.n, of(c.ns...)).is(t, held(moved(accounts(), c.ns...), k, -c.n))
	}
}

func TestSpendOfNone(t *testing.T) {
	for _, n := range []int{1, 40, amount, 0, -1, amount + 1, math.MaxInt, math.MinInt} {
		for _, es := range [][]api.Entry{nil, {}, of(9, 5)[:0]} {
			spend(accounts(), n, es).fails(t, api.ErrArgument)
			spend(nil, n, es).fails(t, api.ErrArgument)
			spend(with(10, api.Account{Held: 5}), n, es).fails(t, api.ErrArgument)
		}
	}
}

func TestSpendWhereReleaseFails(t *testing.T) {
	for _, k := range []int{-1, 0, 2, 8, 15, math.MaxInt, math.MinInt} {
		spend(accounts(), 40, of(k, -1, 9, 1)).fails(t, api.ErrUnknown)
		spend(held(accounts(), 2, 50), 40, of(k, 0)).fails(t, api.ErrUnknown)
		spend(nil, 40, of(k, 0)).fails(t, api.ErrUnknown)
	}
	for _, n := range []int{0, -1, amount + 1, math.MaxInt, math.MinInt} {
		spend(accounts(), n, of(9, -1, 10, 1)).fails(t, api.ErrBad)
	}
	for _, n := range []int{41, 60, amount} {
		spend(accounts(), n, of(9, -1, 10, 1)).fails(t, api.ErrState)
	}
	// What is held of another account than the first entry's does not count.
	spend(accounts(), 1, of(10, 1, 9, -1)).fails(t, api.ErrState)
	spend(accounts(), 40, of(12, 0, 9, -1, 10, 1)).fails(t, api.ErrState)
}

func TestSpendWherePostFails(t *testing.T) {
	spend(accounts(), 40, of(9, -1)).fails(t, api.ErrArgument)
	spend(accounts(), 40, of(9, -1, 10, 2)).fails(t, api.ErrArgument)
	spend(accounts(), 40, of(9, -1, 10, 1, 15, 0)).fails(t, api.ErrArgument)
	full := with(10, api.Account{Balance: balance})
	spend(full, 40, of(9, -1, 10, 1)).fails(t, api.ErrOverflow)
	spend(full, 40, of(9, -1, 10, 1, 9, 1, 10, -1)).fails(t, api.ErrOverflow)
	spend(accounts(), 40, of(9, -101, 10, 101)).fails(t, api.ErrInsufficient)
	spend(accounts(), 39, of(9, -100, 10, 100)).fails(t, api.ErrInsufficient)
	spend(accounts(), 40, of(9, -60, 2, 60, 10, -61, 2, 61)).fails(t, api.ErrInsufficient)
	// What is held of the others stays so.
	spend(accounts(), 40, of(9, 50, 2, -50, 11, -1, 5, 1)).fails(t, api.ErrInsufficient)
	spend(with(10, api.Account{Balance: 4, Held: 5}), 40, of(9, -1, 2, 1)).fails(t, api.ErrInsufficient)
}

// Where two errors apply, the first one is returned: those of Release come ahead of those of Post.
func TestSpendErrorsInOrder(t *testing.T) {
	full := with(10, api.Account{Balance: balance})
	// Each error of Release, and entries that are not balanced, go over, or take more than is free.
	for _, c := range []struct {
		k, n int
		want api.Errno
	}{{-1, 40, api.ErrUnknown}, {8, 0, api.ErrUnknown}, {15, amount + 1, api.ErrUnknown}, {9, 0, api.ErrBad}, {9, amount + 1, api.ErrBad}, {9, 41, api.ErrState}} {
		spend(accounts(), c.n, of(c.k, 1)).fails(t, c.want)
		spend(full, c.n, of(c.k, 0, 10, 1, 9, -1)).fails(t, c.want)
		spend(accounts(), c.n, of(c.k, 0, 9, -101, 10, 101)).fails(t, c.want)
	}
	// Those of Post in their order.
	spend(full, 40, of(9, -101, 10, 102)).fails(t, api.ErrArgument)
	spend(full, 40, of(9, -101, 10, 101)).fails(t, api.ErrOverflow)
}

// All of it

// What is held and released again, and what is posted and posted back, is as before.
func TestThereAndBack(t *testing.T) {
	for _, k := range []int{9, 10, 13} {
		for _, n := range []int{1, 30, 60} {
			there := hold(accounts(), k, n)
			there.is(t, held(accounts(), k, n))
			release(there.as, k, n).is(t, accounts())
		}
	}
	for _, n := range []int{1, 40} {
		there := release(accounts(), 9, n)
		there.is(t, held(accounts(), 9, -n))
		hold(there.as, 9, n).is(t, accounts())
	}
	for _, ns := range [][]int{
		{9, -60, 10, 60},
		{10, -20, 9, 10, 2, 10},
		{10, -10, 1, 10, 4, -9, 12, 9},
		{9, -1000, 9, 1000, 10, -5, 9, 5},
		{13, -balance + 7, 14, balance - 7},
	} {
		there := post(accounts(), of(ns...))
		there.is(t, moved(accounts(), ns...))
		post(there.as, entry.Back(of(ns...))).is(t, accounts())
	}
}

// What was held is spent as what entry.Move makes of it, and nothing is held then.
func TestHoldAndSpend(t *testing.T) {
	for _, to := range []int{9, 12, 14} {
		es, err := entry.Move(accounts(), 10, to, 60)
		if err != nil {
			t.Fatal(err)
		}
		there := hold(accounts(), 10, 60)
		there.is(t, held(accounts(), 10, 60))
		post(there.as, es).fails(t, api.ErrInsufficient)
		spend(there.as, 60, es).is(t, post(accounts(), es).as)
	}
}

// The chapter's example.
func TestExample(t *testing.T) {
	for _, n := range []int{61, 100, amount} {
		hold(accounts(), 9, n).fails(t, api.ErrInsufficient)
	}
}

// calls are all functions, where they succeed and where they fail.
func calls() []func([]api.Account, []api.Entry) answer {
	return []func([]api.Account, []api.Entry) answer{
		post,
		func(as []api.Account, es []api.Entry) answer { return post(as, nil) },
		func(as []api.Account, es []api.Entry) answer { return post(as, es[:1]) },
		func(as []api.Account, es []api.Entry) answer { return hold(as, 9, 30) },
		func(as []api.Account, es []api.Entry) answer { return hold(as, 9, 61) },
		func(as []api.Account, es []api.Entry) answer { return release(as, 9, 30) },
		func(as []api.Account, es []api.Entry) answer { return release(as, 9, 41) },
		func(as []api.Account, es []api.Entry) answer { return spend(as, 40, es) },
		func(as []api.Account, es []api.Entry) answer { return spend(as, 40, es[:1]) },
	}
}

// entriesOf is what the calls are given: the last ones go over, or take too much.
func entriesOf() [][]api.Entry {
	return [][]api.Entry{
		of(9, -5, 10, 5), of(9, -60, 10, 60), of(9, -100, 2, 100), of(9, -101, 2, 101),
		of(9, -5, 2, 5, 6, -1, 14, 1), of(9, -1, 10, 2),
	}
}

// W6: no function changes what it is given, nor the room behind it.
func TestArgumentsStay(t *testing.T) {
	for k, call := range calls() {
		for _, es := range entriesOf() {
			as := accounts()
			before := slices.Clone(es)
			call(as, es)
			call(as[:11], es)
			if !slices.Equal(as, accounts()) || !slices.Equal(es, before) {
				t.Errorf("call %d: %v, %v", k, as, es)
			}
		}
	}
}

// W6: what comes back changes apart from the arguments, and from what another call gives.
func TestResultsAreApart(t *testing.T) {
	for k, call := range calls() {
		for _, es := range entriesOf() {
			as := accounts()
			first, second := call(as[:14], es), call(as[:14], es)
			before := slices.Clone(second.as)
			for j := range first.as {
				first.as[j] = api.Account{Cur: 7, Balance: 7, Held: 7}
			}
			_ = append(first.as, api.Account{Cur: 7})
			if !slices.Equal(as, accounts()) || !slices.Equal(second.as, before) {
				t.Errorf("call %d: %v, %v", k, as, second.as)
			}
		}
	}
}

// Drawn inputs against a plain second reading of the chapter.

type draw uint64

func (s *draw) below(n int) int {
	*s = *s*6364136223846793005 + 1442695040888963407
	return int(uint64(*s)>>33) % n
}

func (s *draw) of(ns ...int) int { return ns[s.below(len(ns))] }

// accounts are the house's and six clients', mostly small, some at the edge of what may be, few of them short.
func (s *draw) accounts() []api.Account {
	as := accounts()
	for k := range as {
		a := &as[k]
		switch s.below(8) {
		case 0:
			a.Balance = balance - s.below(3)
		case 1:
			a.Balance = s.below(3)
		default:
			a.Balance = s.below(200)
		}
		a.Held = 0
		if k < 9 && s.below(2) == 0 {
			a.Balance = -a.Balance
		}
		if k >= 9 && s.below(2) == 0 {
			a.Held = s.of(0, a.Balance, s.below(200)) % (a.Balance + 1)
		}
	}
	if s.below(20) == 0 {
		as[9+s.below(6)].Held += s.of(1, 200, balance)
	}
	return as[:15-s.below(2)]
}

// entries are mostly balanced: pairs that undo each other, in any order, of which at most one is changed.
func (s *draw) entries() []api.Entry {
	es := []api.Entry{}
	for range s.below(4) {
		cur, n := s.below(3), s.of(0, 1, 2, s.below(200), s.below(200))
		from, to := s.of(9, 10), s.of(9, 10, 0, 1, 2)
		if to >= 9 {
			to += 2 * cur
		} else {
			to += 3 * cur
		}
		es = append(es, of(from+2*cur, -n, to, n)...)
	}
	if s.below(3) == 0 {
		for k := range es {
			other := s.below(len(es))
			es[k], es[other] = es[other], es[k]
		}
	}
	if len(es) > 0 && s.below(10) == 0 {
		e := &es[s.below(len(es))]
		e.Account = s.of(e.Account, s.below(17)-1)
		e.Amount += s.of(0, 1, -1, balance)
	}
	return es
}

func (s *draw) amount() int {
	return s.of(-1, 0, 1, 2, s.below(200), s.below(200), s.below(200), amount, amount+1)
}

func within(n int) bool { return -balance <= n && n <= balance }

func balancedByReading(as []api.Account, es []api.Entry) bool {
	sums := [3]int{}
	for _, e := range es {
		if e.Account < 0 || e.Account >= len(as) || !within(e.Amount) {
			return false
		}
		sums[as[e.Account].Cur] += e.Amount
		if !within(sums[as[e.Account].Cur]) {
			return false
		}
	}
	return sums[0] == 0 && sums[1] == 0 && sums[2] == 0
}

func postByReading(as []api.Account, es []api.Entry) ([]api.Account, api.Errno) {
	if !balancedByReading(as, es) {
		return nil, api.ErrArgument
	}
	as = slices.Clone(as)
	for _, e := range es {
		if !within(as[e.Account].Balance) || !within(as[e.Account].Balance+e.Amount) {
			return nil, api.ErrOverflow
		}
		as[e.Account].Balance += e.Amount
	}
	for _, a := range as[9:] {
		if a.Balance < a.Held {
			return nil, api.ErrInsufficient
		}
	}
	return as, 0
}

func holdsByReading(as []api.Account, k, n int, isHold bool) ([]api.Account, api.Errno) {
	switch {
	case k < 9 || k >= len(as):
		return nil, api.ErrUnknown
	case n < 1 || n > amount:
		return nil, api.ErrBad
	case isHold && as[k].Balance < as[k].Held+n:
		return nil, api.ErrInsufficient
	case !isHold && as[k].Held < n:
		return nil, api.ErrState
	case isHold:
		return held(as, k, n), 0
	}
	return held(as, k, -n), 0
}

func spendByReading(as []api.Account, n int, es []api.Entry) ([]api.Account, api.Errno) {
	if len(es) == 0 {
		return nil, api.ErrArgument
	}
	as, wrong := holdsByReading(as, es[0].Account, n, false)
	if wrong != 0 {
		return nil, wrong
	}
	return postByReading(as, es)
}

// seen counts how often each error was the answer.
type seen [api.ErrArgument + 1]int

func (s *seen) agree(t *testing.T, got answer, want []api.Account, wrong api.Errno) {
	t.Helper()
	if !slices.Equal(got.as, want) || api.Number(got.err) != wrong || (got.err == nil) != (wrong == 0) {
		t.Fatalf("%v, %v, not %v, %v", got.as, got.err, want, wrong)
	}
	s[wrong]++
}

func (s *seen) enough(t *testing.T, wrongs ...api.Errno) {
	t.Helper()
	for _, e := range append(wrongs, 0) {
		if s[e] < 200 {
			t.Errorf("%d calls end with %d: too few", s[e], e)
		}
	}
}

func TestDrawnPosts(t *testing.T) {
	s, ends := draw(9), seen{}
	for range 30000 {
		as, es := s.accounts(), s.entries()
		want, wrong := postByReading(as, es)
		got := post(as, es)
		ends.agree(t, got, want, wrong)
		if wrong == 0 && chart.Sums(got.as) != chart.Sums(as) {
			t.Fatalf("Post(%v, %v) makes or loses money", as, es)
		}
	}
	ends.enough(t, api.ErrArgument, api.ErrOverflow, api.ErrInsufficient)
}

func TestDrawnHolds(t *testing.T) {
	s, holds, releases := draw(10), seen{}, seen{}
	for range 30000 {
		as, k, n := s.accounts(), s.of(8+s.below(8), s.below(17)-1), s.amount()
		want, wrong := holdsByReading(as, k, n, true)
		holds.agree(t, hold(as, k, n), want, wrong)
		want, wrong = holdsByReading(as, k, n, false)
		releases.agree(t, release(as, k, n), want, wrong)
	}
	holds.enough(t, api.ErrUnknown, api.ErrBad, api.ErrInsufficient)
	releases.enough(t, api.ErrUnknown, api.ErrBad, api.ErrState)
}

func TestDrawnSpends(t *testing.T) {
	s, ends := draw(11), seen{}
	for range 60000 {
		as, es, n := s.accounts(), s.entries(), s.amount()
		if len(es) > 0 && es[0].Account >= 9 && es[0].Account < len(as) && s.below(2) == 0 {
			n = as[es[0].Account].Held + s.below(3) - 1
		}
		want, wrong := spendByReading(as, n, es)
		ends.agree(t, spend(as, n, es), want, wrong)
	}
	ends.enough(t, api.ErrArgument, api.ErrUnknown, api.ErrBad, api.ErrState, api.ErrOverflow, api.ErrInsufficient)
}
