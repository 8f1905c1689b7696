package entry_test

import (
	"errors"
	"math"
	"slices"
	"testing"

	"hawala/api"
	"hawala/chart"
	"hawala/entry"
)

const (
	balance = 1 << 50
	amount  = 1 << 40
)

// accounts are the house's nine, two clients' of each currency (9 and 10, 11 and 12, 13 and 14), and behind them some whose Cur is no currency: 15 and 16 of the same, 17 to 19 of others. The last index is 19.
func accounts() []api.Account {
	return []api.Account{
		{Cur: 0}, {Cur: 0}, {Cur: 0}, {Cur: 1}, {Cur: 1}, {Cur: 1}, {Cur: 2}, {Cur: 2}, {Cur: 2},
		{Cur: 0, Balance: 100, Held: 20}, {Cur: 0},
		{Cur: 1, Balance: 50}, {Cur: 1},
		{Cur: 2, Balance: balance}, {Cur: 2},
		{Cur: 3}, {Cur: 3}, {Cur: -1}, {Cur: math.MaxInt}, {Cur: math.MinInt},
	}
}

// valid are those of accounts whose Cur is a currency. The last index is 14.
func valid() []api.Account { return accounts()[:15:15] }

// of makes entries of pairs: an account, an amount.
func of(ns ...int) []api.Entry {
	es := []api.Entry{}
	for k := 0; k+1 < len(ns); k += 2 {
		es = append(es, api.Entry{Account: ns[k], Amount: ns[k+1]})
	}
	return es
}

// P8.1: Balanced

func wantBalanced(t *testing.T, as []api.Account, es []api.Entry, want bool) {
	t.Helper()
	if entry.Balanced(as, es) != want {
		t.Errorf("Balanced(%d accounts, %v) = %t", len(as), es, !want)
	}
}

func TestBalancedOfNone(t *testing.T) {
	for _, as := range [][]api.Account{nil, {}, accounts(), {{Cur: 7}}} {
		wantBalanced(t, as, nil, true)
		wantBalanced(t, as, []api.Entry{}, true)
	}
}

func TestBalanced(t *testing.T) {
	for _, c := range []struct {
		es   []api.Entry
		want bool
	}{
		{of(9, 0), true},
		{of(9, 1), false},
		{of(9, -1), false},
		{of(9, -30, 10, 30), true},
		{of(10, 30, 9, -30), true},
		{of(9, -30, 10, 29), false},
		{of(9, -30, 10, 31), false},
		{of(9, 30, 10, 30), false},
		{of(9, 5, 9, -5), true},
		{of(0, -7, 9, 3, 10, 4), true},
		{of(9, -10, 1, 10, 4, -9, 11, 9), true},
		{of(9, -10, 4, -9, 1, 10, 11, 9), true},
		{of(9, -10, 1, 10, 4, -9, 11, 8), false},
		{of(0, 1, 1, 2, 2, -3, 3, 4, 4, 5, 5, -9, 6, 7, 7, 8, 8, -15), true},
		{of(0, 1, 1, 2, 2, -3, 3, 4, 4, 5, 5, -9, 6, 7, 7, 8, 8, -14), false},
	} {
		wantBalanced(t, accounts(), c.es, c.want)
	}
}

// Each currency's sum must be 0, whatever all of them come to.
func TestBalancedInEachCurrency(t *testing.T) {
	for _, c := range []struct {
		es   []api.Entry
		want bool
	}{
		{of(9, 5, 11, -5), false},
		{of(9, 5, 13, -5), false},
		{of(11, 5, 13, -5), false},
		{of(9, 5, 11, 5, 13, -10), false},
		{of(9, 5, 10, -5, 11, 1), false},
		{of(9, 5, 10, -5, 13, 1), false},
		{of(11, 5, 12, -5, 9, 1), false},
		{of(11, 5, 12, -5, 13, 1), false},
		{of(13, 5, 14, -5, 9, 1), false},
		{of(13, 5, 14, -5, 11, 1), false},
		{of(13, 1, 9, 5, 10, -5), false},
		{of(9, 5, 11, 6, 13, 7, 14, -7, 12, -6, 10, -5), true},
	} {
		wantBalanced(t, accounts(), c.es, c.want)
	}
}

// An entry is of the Cur of its account, wherever the account stands: also where a list isn't a valid one.
func TestBalancedByTheAccountsCur(t *testing.T) {
	as := []api.Account{{Cur: 2}, {Cur: 0}, {Cur: 2}}
	wantBalanced(t, as, of(0, 5, 2, -5), true)
	wantBalanced(t, as, of(0, 5, 1, -5), false)
	many := make([]api.Account, 100)
	wantBalanced(t, many, of(0, 5, 99, -5), true)
}

func TestBalancedAccountsThatExist(t *testing.T) {
	for _, n := range []int{1, 8, 9, 10, 15} {
		as := accounts()[:n]
		wantBalanced(t, as, of(0, 0), true)
		wantBalanced(t, as, of(n-1, 0), true)
		wantBalanced(t, as, of(n-1, 3, n-1, -3), true)
		for _, k := range []int{-1, -2, n, n + 1, math.MaxInt, math.MinInt} {
			wantBalanced(t, as, of(k, 0), false)
			wantBalanced(t, as, of(k, 1, k, -1), false)
			wantBalanced(t, as, of(0, 1, 0, -1, k, 0), false)
			wantBalanced(t, as, of(k, 0, 0, 1, 0, -1), false)
		}
	}
	for _, k := range []int{-1, 0, 1} {
		wantBalanced(t, nil, of(k, 0), false)
	}
}

func TestBalancedCurThatIsNoCurrency(t *testing.T) {
	for k := 15; k < 20; k++ {
		wantBalanced(t, accounts(), of(k, 0), false)
		wantBalanced(t, accounts(), of(k, 1, k, -1), false)
		wantBalanced(t, accounts(), of(9, 1, 10, -1, k, 0), false)
		wantBalanced(t, accounts(), of(k, 0, 9, 1, 10, -1), false)
		// An account of no currency harms only if an entry is of it.
		wantBalanced(t, accounts()[:k+1], of(9, 1, 10, -1), true)
	}
	wantBalanced(t, accounts(), of(15, 1, 16, -1), false)
}

func TestBalancedAmountsAtTheEdge(t *testing.T) {
	for _, k := range []int{0, 9, 11, 13} {
		wantBalanced(t, valid(), of(k, balance, k, -balance), true)
		wantBalanced(t, valid(), of(k, -balance, k, balance), true)
		wantBalanced(t, valid(), of(k, balance-1, k, 1-balance), true)
		for _, n := range []int{balance + 1, -balance - 1, 2 * balance, -2 * balance, math.MaxInt, math.MinInt} {
			wantBalanced(t, valid(), of(k, n), false)
			wantBalanced(t, valid(), of(k, n, k, -n), false)
			wantBalanced(t, valid(), of(k, 1, k, -1, k, n), false)
		}
	}
	wantBalanced(t, valid(), of(9, math.MinInt, 9, math.MinInt), false)
	// The second Amount is none, though the sum with it would be one.
	wantBalanced(t, valid(), of(9, 1, 9, -balance-1, 9, balance), false)
	wantBalanced(t, valid(), of(9, -1, 9, balance+1, 9, -balance), false)
}

// The sums are added one by one: what goes over on the way is not balanced, though it would come to 0.
func TestBalancedOnTheWay(t *testing.T) {
	for _, k := range []int{9, 11, 13} {
		for _, c := range []struct {
			es   []api.Entry
			want bool
		}{
			{of(k, balance, k, 1), false},
			{of(k, balance, k, 1, k, -1, k, -balance), false},
			{of(k, balance, k+1, 1, k, -balance, k, -1), false},
			{of(k, -balance, k, -1, k, 1, k, balance), false},
			{of(k, balance, k, balance, k, -balance, k, -balance), false},
			{of(k, balance-1, k, 1, k, -balance), true},
			{of(k, 1-balance, k, -1, k, balance), true},
			{of(k, balance, k, -1, k, 1, k, -balance), true},
			{of(k, balance, k, -balance, k, balance, k, -balance), true},
			{of(k, balance, k, -balance, k, -balance, k, balance), true},
		} {
			wantBalanced(t, valid(), c.es, c.want)
		}
	}
	// Together the currencies go over, none of them does.
	wantBalanced(t, valid(), of(9, balance, 11, balance, 13, balance, 9, -balance, 11, -balance, 13, -balance), true)
}

// What an account has, or has held, is not asked.
func TestBalancedWhateverBalances(t *testing.T) {
	as := valid()
	as[9] = api.Account{Balance: math.MaxInt, Held: math.MinInt}
	as[10] = api.Account{Balance: -5, Held: 70}
	wantBalanced(t, as, of(9, balance, 10, -balance), true)
	wantBalanced(t, as, of(9, 5), false)
}

func TestBalancedOfMany(t *testing.T) {
	es := []api.Entry{}
	for k := range 10000 {
		es = append(es, of(9+k%6, k, k%6/2*3, -k)...)
	}
	wantBalanced(t, valid(), es, true)
	wantBalanced(t, valid(), es[1:len(es)-1], false)
	wantBalanced(t, valid(), append(es, of(9, 1)...), false)
}

// P8.2: Move

func wantMove(t *testing.T, as []api.Account, from, to, n int, want []api.Entry) {
	t.Helper()
	es, err := entry.Move(as, from, to, n)
	if err != nil || !slices.Equal(es, want) {
		t.Errorf("Move(%d accounts, %d, %d, %d) = %v, %v, not %v", len(as), from, to, n, es, err, want)
	}
}

func wantMoveError(t *testing.T, as []api.Account, from, to, n int, want api.Errno) {
	t.Helper()
	es, err := entry.Move(as, from, to, n)
	if len(es) != 0 || !errors.Is(err, want) {
		t.Errorf("Move(%d accounts, %d, %d, %d) = %v, %v, not %v", len(as), from, to, n, es, err, want)
	}
}

func TestMoveInOneCurrency(t *testing.T) {
	for _, pair := range [][2]int{{9, 10}, {10, 9}, {11, 12}, {13, 14}, {0, 9}, {9, 0}, {1, 2}, {1, 9}, {9, 1}, {13, 7}, {6, 8}} {
		for _, n := range []int{1, 2, 30, 101, amount - 1, amount} {
			wantMove(t, accounts(), pair[0], pair[1], n, of(pair[0], -n, pair[1], n))
		}
	}
}

func TestMoveBetweenCurrencies(t *testing.T) {
	for _, c := range []struct {
		from, to, n int
		want        []api.Entry
	}{
		{9, 11, 10, of(9, -10, 1, 10, 4, -9, 11, 9)},
		{9, 11, 7, of(9, -7, 1, 7, 4, -6, 11, 6)},
		{9, 13, 2, of(9, -2, 1, 2, 7, -300, 13, 300)},
		{11, 9, 10, of(11, -10, 4, 10, 1, -11, 9, 11)},
		{11, 9, 19, of(11, -19, 4, 19, 1, -20, 9, 20)},
		{11, 13, 3, of(11, -3, 4, 3, 7, -480, 13, 480)},
		{13, 9, 1000, of(13, -1000, 7, 1000, 1, -6, 9, 6)},
		{13, 11, 1000, of(13, -1000, 7, 1000, 4, -6, 11, 6)},
		{10, 14, 1, of(10, -1, 1, 1, 7, -150, 14, 150)},
		{0, 12, 20, of(0, -20, 1, 20, 4, -18, 12, 18)},
		{14, 2, 302, of(14, -302, 7, 302, 1, -2, 2, 2)},
	} {
		wantMove(t, accounts(), c.from, c.to, c.n, c.want)
	}
}

// The least and the greatest amounts that can be converted, and those just beyond.
func TestMoveEdgesOfConversion(t *testing.T) {
	for _, c := range []struct {
		from, to, least, comesTo, exchange, other int
	}{
		{9, 11, 2, 1, 1, 4},
		{11, 9, 1, 1, 4, 1},
		{9, 13, 1, 150, 1, 7},
		{11, 13, 1, 160, 4, 7},
		{13, 9, 151, 1, 7, 1},
		{13, 11, 161, 1, 7, 4},
	} {
		wantMove(t, accounts(), c.from, c.to, c.least, of(c.from, -c.least, c.exchange, c.least, c.other, -c.comesTo, c.to, c.comesTo))
		// One less is converted to 0, or is no amount: ErrBad in either case.
		wantMoveError(t, accounts(), c.from, c.to, c.least-1, api.ErrBad)
	}
	for _, c := range []struct {
		from, to, greatest, comesTo, exchange, other int
	}{
		{11, 9, 999556025251, amount, 4, 1},
		{9, 13, 7330077518, 1099511627700, 1, 7},
		{11, 13, 6871947673, 1099511627680, 4, 7},
	} {
		wantMove(t, accounts(), c.from, c.to, c.greatest, of(c.from, -c.greatest, c.exchange, c.greatest, c.other, -c.comesTo, c.to, c.comesTo))
		wantMoveError(t, accounts(), c.from, c.to, c.greatest+1, api.ErrOverflow)
		wantMoveError(t, accounts(), c.from, c.to, amount, api.ErrOverflow)
		wantMoveError(t, accounts(), c.from, c.to, amount+1, api.ErrBad)
	}
	wantMove(t, accounts(), 9, 11, amount, of(9, -amount, 1, amount, 4, -989560464998, 11, 989560464998))
	wantMove(t, accounts(), 13, 9, amount, of(13, -amount, 7, amount, 1, -7281533958, 9, 7281533958))
	wantMove(t, accounts(), 13, 11, amount, of(13, -amount, 7, amount, 4, -6829264768, 11, 6829264768))
	wantMoveError(t, accounts(), 13, 9, amount+1, api.ErrBad)
}

// An Exchange account that is itself from or to has two entries, apart from each other.
func TestMoveOfExchangeAccounts(t *testing.T) {
	wantMove(t, accounts(), 1, 13, 2, of(1, -2, 1, 2, 7, -300, 13, 300))
	wantMove(t, accounts(), 9, 7, 2, of(9, -2, 1, 2, 7, -300, 7, 300))
	wantMove(t, accounts(), 1, 7, 2, of(1, -2, 1, 2, 7, -300, 7, 300))
	wantMove(t, accounts(), 4, 1, 10, of(4, -10, 4, 10, 1, -11, 1, 11))
	wantMove(t, accounts(), 1, 10, 2, of(1, -2, 10, 2))
	wantMove(t, accounts(), 12, 4, 2, of(12, -2, 4, 2))
	wantMoveError(t, accounts(), 1, 1, 2, api.ErrBad)
}

func TestMoveOfNoAccount(t *testing.T) {
	for _, n := range []int{1, 5, amount} {
		for _, k := range []int{-1, -2, 15, 16, math.MaxInt, math.MinInt} {
			wantMoveError(t, valid(), k, 9, n, api.ErrUnknown)
			wantMoveError(t, valid(), 9, k, n, api.ErrUnknown)
			wantMoveError(t, valid(), k, 14, n, api.ErrUnknown)
		}
		wantMoveError(t, nil, 0, 1, n, api.ErrUnknown)
		wantMoveError(t, []api.Account{}, 0, 0, n, api.ErrUnknown)
		wantMoveError(t, []api.Account{{}}, 0, 1, n, api.ErrUnknown)
		// What stands in the room behind a slice's length is not there.
		wantMoveError(t, accounts()[:10], 9, 10, n, api.ErrUnknown)
	}
	wantMove(t, valid(), 14, 0, 151, of(14, -151, 7, 151, 1, -1, 0, 1))
	wantMove(t, valid(), 0, 14, 1, of(0, -1, 1, 1, 7, -150, 14, 150))
}

func TestMoveToTheSame(t *testing.T) {
	for k := range accounts() {
		for _, n := range []int{1, 5, amount, 0, -1, amount + 1} {
			wantMoveError(t, accounts(), k, k, n, api.ErrBad)
		}
	}
}

func TestMoveOfNoAmount(t *testing.T) {
	for _, n := range []int{0, -1, -5, -amount, amount + 1, balance, balance + 1, math.MaxInt, math.MinInt} {
		wantMoveError(t, accounts(), 9, 10, n, api.ErrBad)
		wantMoveError(t, accounts(), 9, 11, n, api.ErrBad)
		wantMoveError(t, accounts(), 13, 9, n, api.ErrBad)
		wantMoveError(t, accounts(), 15, 16, n, api.ErrBad)
	}
}

func TestMoveOfNoCurrency(t *testing.T) {
	for k := 15; k < 20; k++ {
		for _, other := range []int{0, 4, 9, 11, 13} {
			for _, n := range []int{1, 5, 1000, amount} {
				wantMoveError(t, accounts(), k, other, n, api.ErrUnknown)
				wantMoveError(t, accounts(), other, k, n, api.ErrUnknown)
			}
		}
	}
	wantMoveError(t, accounts(), 15, 17, 5, api.ErrUnknown)
	wantMoveError(t, accounts(), 18, 19, 5, api.ErrUnknown)
}

// Only where the Curs differ is it asked whether they are currencies.
func TestMoveInTheSameCurOfNoCurrency(t *testing.T) {
	for _, n := range []int{1, 5, amount} {
		wantMove(t, accounts(), 15, 16, n, of(15, -n, 16, n))
		wantMove(t, accounts(), 16, 15, n, of(16, -n, 15, n))
	}
}

// Where two errors apply, the chapter's first one is returned.
func TestMoveErrorsInOrder(t *testing.T) {
	for _, c := range []struct {
		from, to, n int
		want        api.Errno
	}{
		// No account, and the same one twice or no amount.
		{-1, -1, 5, api.ErrUnknown},
		{20, 20, 5, api.ErrUnknown},
		{-1, 9, 0, api.ErrUnknown},
		{9, -1, 0, api.ErrUnknown},
		{9, 20, amount + 1, api.ErrUnknown},
		{20, 20, -1, api.ErrUnknown},
		// The same account twice, and no currency.
		{15, 15, 5, api.ErrBad},
		{18, 18, 0, api.ErrBad},
		// No amount, and no currency.
		{9, 15, 0, api.ErrBad},
		{15, 9, amount + 1, api.ErrBad},
		{15, 17, -1, api.ErrBad},
		// No amount, which money.Convert would refuse by ErrArgument.
		{9, 11, 0, api.ErrBad},
		{9, 13, amount + 1, api.ErrBad},
		// No currency, and an amount that any rate upwards would bring beyond the greatest, or any downwards to 0.
		{11, 15, amount, api.ErrUnknown},
		{15, 13, amount, api.ErrUnknown},
		{13, 17, 1, api.ErrUnknown},
		{17, 13, 1, api.ErrUnknown},
	} {
		wantMoveError(t, accounts(), c.from, c.to, c.n, c.want)
	}
}

// What an account has is not asked: whether it is enough is for others to tell.
func TestMoveWhateverBalances(t *testing.T) {
	as := valid()
	as[9] = api.Account{Balance: -5, Held: math.MaxInt}
	as[10] = api.Account{Balance: math.MaxInt}
	wantMove(t, as, 9, 10, 1000, of(9, -1000, 10, 1000))
	as[11].Balance = math.MinInt
	wantMove(t, as, 9, 11, 1000, of(9, -1000, 1, 1000, 4, -900, 11, 900))
}

// The Cur of the account counts, not where it stands; the Exchange accounts are named by the currencies alone, in a list of any length.
func TestMoveByTheAccountsCur(t *testing.T) {
	as := []api.Account{{Cur: 2}, {Cur: 1}, {Cur: 2}}
	wantMove(t, as, 0, 2, 5, of(0, -5, 2, 5))
	wantMove(t, as, 1, 2, 5, of(1, -5, 4, 5, 7, -800, 2, 800))
	wantBalanced(t, as, of(1, -5, 4, 5, 7, -800, 2, 800), false)
	many := make([]api.Account, 100)
	wantMove(t, many, 0, 99, 5, of(0, -5, 99, 5))
	many[99].Cur = 1
	wantMove(t, many, 99, 98, 10, of(99, -10, 4, 10, 1, -11, 98, 11))
}

// W6: two answers share nothing.
func TestMoveIsApart(t *testing.T) {
	for _, to := range []int{10, 11} {
		first, _ := entry.Move(accounts(), 9, to, 10)
		second, _ := entry.Move(accounts(), 9, to, 10)
		before := slices.Clone(second)
		for k := range first {
			first[k] = api.Entry{Account: 77, Amount: 77}
		}
		wantMove(t, accounts(), 9, to, 10, before)
		if !slices.Equal(second, before) {
			t.Error(second)
		}
	}
}

// P8.3: Back

func wantBack(t *testing.T, es, want []api.Entry) {
	t.Helper()
	if got := entry.Back(es); !slices.Equal(got, want) {
		t.Errorf("Back(%v) = %v, not %v", es, got, want)
	}
}

func TestBack(t *testing.T) {
	wantBack(t, nil, nil)
	wantBack(t, []api.Entry{}, nil)
	wantBack(t, of(9, 5), of(9, -5))
	wantBack(t, of(9, -5), of(9, 5))
	wantBack(t, of(9, 0), of(9, 0))
	wantBack(t, of(1, 2, 3, -4), of(3, 4, 1, -2))
	wantBack(t, of(1, 2, 3, -4, 5, 6), of(5, -6, 3, 4, 1, -2))
	wantBack(t, of(9, -10, 1, 10, 4, -9, 11, 9), of(11, -9, 4, 9, 1, -10, 9, 10))
	wantBack(t, of(9, 5, 9, 5), of(9, -5, 9, -5))
	wantBack(t, of(-1, balance, math.MaxInt, -balance-1), of(math.MaxInt, balance+1, -1, -balance))
	// The least int has no opposite: it wraps around to itself (W5).
	wantBack(t, of(0, math.MinInt, math.MinInt, math.MaxInt), of(math.MinInt, -math.MaxInt, 0, math.MinInt))
}

func TestBackOfBack(t *testing.T) {
	for _, es := range [][]api.Entry{nil, of(9, 5), of(1, 2, 3, -4), of(1, 2, 3, -4, 5, 6), of(0, math.MinInt, -7, 0)} {
		if again := entry.Back(entry.Back(es)); !slices.Equal(again, es) {
			t.Errorf("Back(Back(%v)) = %v", es, again)
		}
	}
}

func TestBackIsApart(t *testing.T) {
	es := of(1, 2, 3, -4, 5, 6)
	first, second := entry.Back(es), entry.Back(es)
	for k := range first {
		first[k] = api.Entry{Account: 77, Amount: 77}
	}
	if !slices.Equal(es, of(1, 2, 3, -4, 5, 6)) || !slices.Equal(second, of(5, -6, 3, 4, 1, -2)) {
		t.Error(es, second)
	}
	_ = append(entry.Back(es[:0]), api.Entry{Account: 77})
	_ = append(entry.Back(es[:1]), api.Entry{Account: 77})
	if !slices.Equal(es, of(1, 2, 3, -4, 5, 6)) {
		t.Error(es)
	}
}

// All of it

// The chapter's example.
func TestExample(t *testing.T) {
	es, err := entry.Move(accounts(), 9, 11, 10)
	amounts := []int{}
	for _, e := range es {
		amounts = append(amounts, e.Amount)
	}
	if err != nil || !slices.Equal(amounts, []int{-10, 10, -9, 9}) {
		t.Error(es, err)
	}
}

// W6: no function changes what it is given.
func TestArgumentsStay(t *testing.T) {
	as := accounts()
	for _, es := range [][]api.Entry{of(9, 5, 10, -5), of(9, 5, 11, -5), of(20, 1), of(15, 1), of(9, balance, 9, 1)} {
		before := slices.Clone(es)
		entry.Balanced(as, es)
		entry.Back(es)
		if !slices.Equal(es, before) {
			t.Error(es)
		}
	}
	for _, c := range [][3]int{{9, 10, 5}, {9, 11, 5}, {9, 9, 5}, {9, 20, 5}, {15, 9, 5}, {9, 13, amount}, {13, 9, 1}} {
		entry.Move(as, c[0], c[1], c[2])
	}
	if !slices.Equal(as, accounts()) {
		t.Error(as)
	}
}

// Drawn inputs against a plain second reading of the chapter.

type draw uint64

func (s *draw) below(n int) int {
	*s = *s*6364136223846793005 + 1442695040888963407
	return int(uint64(*s)>>33) % n
}

func (s *draw) of(ns ...int) int { return ns[s.below(len(ns))] }

func (s *draw) amount() int {
	switch s.below(4) {
	case 0:
		return s.of(-1, 0, 1, 150, 151, 160, 161, amount, amount+1, math.MaxInt, math.MinInt)
	case 1:
		return s.of(7330077518, 6871947673, 999556025251) + s.below(3) - 1
	case 2:
		return s.below(400)
	}
	return s.below(1 << 30)
}

// account is mostly one of the valid ones, so that each error is drawn often enough, and none too often.
func (s *draw) account() int {
	if s.below(8) == 0 {
		return s.below(23) - 1
	}
	return s.below(15)
}

func moveByReading(as []api.Account, from, to, n int) ([]api.Entry, api.Errno) {
	num := [3][3]int{{1, 9, 150}, {11, 1, 160}, {1, 1, 1}}
	den := [3][3]int{{1, 10, 1}, {10, 1, 1}, {151, 161, 1}}
	if from < 0 || from >= len(as) || to < 0 || to >= len(as) {
		return nil, api.ErrUnknown
	}
	if from == to || n < 1 || n > amount {
		return nil, api.ErrBad
	}
	a, b := as[from].Cur, as[to].Cur
	if a == b {
		return of(from, -n, to, n), 0
	}
	if a < 0 || a > 2 || b < 0 || b > 2 {
		return nil, api.ErrUnknown
	}
	m := (n*num[a][b] - n*num[a][b]%den[a][b]) / den[a][b]
	if m > amount {
		return nil, api.ErrOverflow
	}
	if m == 0 {
		return nil, api.ErrBad
	}
	return of(from, -n, 3*a+1, n, 3*b+1, -m, to, m), 0
}

func TestDrawnMoves(t *testing.T) {
	s := draw(8)
	as := accounts()
	seen := map[api.Errno]int{}
	for range 50000 {
		from, to, n := s.account(), s.account(), s.amount()
		want, wrong := moveByReading(as, from, to, n)
		es, err := entry.Move(as, from, to, n)
		if !slices.Equal(es, want) || api.Number(err) != wrong || (err == nil) != (wrong == 0) {
			t.Fatalf("Move(%d, %d, %d) = %v, %v, not %v, %v", from, to, n, es, err, want, wrong)
		}
		seen[wrong]++
		if err != nil || from > 14 || to > 14 {
			continue
		}
		// What moves in a valid list is balanced, and so is its way back, and both together.
		back := entry.Back(es)
		if !entry.Balanced(as, es) || !entry.Balanced(as, back) || !entry.Balanced(as, append(es, back...)) {
			t.Fatalf("Move(%d, %d, %d) = %v is not balanced", from, to, n, es)
		}
	}
	for _, e := range []api.Errno{0, api.ErrUnknown, api.ErrBad, api.ErrOverflow} {
		if seen[e] < 500 {
			t.Errorf("%d moves end with %d: too few", seen[e], e)
		}
	}
	if !chart.Right(valid()) {
		t.Error("the accounts of these tests are not valid")
	}
}

// entries are often balanced: pairs that undo each other, in any order, of which at most one is changed.
func (s *draw) entries() []api.Entry {
	es := []api.Entry{}
	for range s.below(5) {
		cur := s.below(3)
		n := s.of(0, 1, 30, -30, balance/2, -balance/2, balance-1, balance, -balance)
		es = append(es, of(9+2*cur, n, s.of(0, 1, 2)+3*cur, -n)...)
	}
	for k := range es {
		other := s.below(len(es))
		es[k], es[other] = es[other], es[k]
	}
	if len(es) > 0 && s.below(3) == 0 {
		e := &es[s.below(len(es))]
		switch s.below(3) {
		case 0:
			e.Account = s.below(23) - 1
		case 1:
			e.Amount += s.below(3) - 1
		case 2:
			e.Amount = s.of(balance+1, -balance-1, math.MaxInt, math.MinInt)
		}
	}
	return es
}

func balancedByReading(as []api.Account, es []api.Entry) bool {
	for _, e := range es {
		if e.Account < 0 || e.Account >= len(as) || as[e.Account].Cur < 0 || as[e.Account].Cur > 2 || e.Amount < -balance || e.Amount > balance {
			return false
		}
	}
	for cur := range 3 {
		sum := 0
		for _, e := range es {
			if as[e.Account].Cur == cur {
				sum += e.Amount
			}
			if sum < -balance || sum > balance {
				return false
			}
		}
		if sum != 0 {
			return false
		}
	}
	return true
}

func TestDrawnBalances(t *testing.T) {
	s := draw(9)
	as := accounts()
	yes, no := 0, 0
	for range 50000 {
		es := s.entries()
		want := balancedByReading(as, es)
		if entry.Balanced(as, es) != want {
			t.Fatalf("Balanced(%v) = %t", es, !want)
		}
		if want {
			yes++
		} else {
			no++
		}
	}
	if yes < 5000 || no < 5000 {
		t.Errorf("%d are balanced, %d not: too few of one", yes, no)
	}
}
