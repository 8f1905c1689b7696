package money_test

import (
	"errors"
	"math"
	"math/big"
	"testing"

	"hawala/api"
	"hawala/money"
)

const (
	balance = 1 << 50
	amount  = 1 << 40
)

// P1.1

func TestMay(t *testing.T) {
	for _, n := range []int{0, 1, -1, amount, balance - 1, balance, 1 - balance, -balance} {
		if !money.May(n) {
			t.Errorf("May(%d) = false", n)
		}
	}
	for _, n := range []int{balance + 1, -balance - 1, 1 << 62, -1 << 62, math.MaxInt, math.MinInt} {
		if money.May(n) {
			t.Errorf("May(%d) = true", n)
		}
	}
}

func TestAmount(t *testing.T) {
	for _, n := range []int{1, 2, 1000, amount - 1, amount} {
		if !money.Amount(n) {
			t.Errorf("Amount(%d) = false", n)
		}
	}
	for _, n := range []int{0, -1, -amount, amount + 1, balance, math.MaxInt, math.MinInt} {
		if money.Amount(n) {
			t.Errorf("Amount(%d) = true", n)
		}
	}
}

func TestAddInRange(t *testing.T) {
	for _, c := range []struct{ a, b, want int }{
		{0, 0, 0},
		{2, 3, 5},
		{2, -3, -1},
		{-2, -3, -5},
		{balance, 0, balance},
		{0, -balance, -balance},
		{balance - 1, 1, balance},
		{1 - balance, -1, -balance},
		{balance, -1, balance - 1},
		{balance, -balance, 0},
		{-balance, balance, 0},
		{balance / 2, balance / 2, balance},
	} {
		if n, err := money.Add(c.a, c.b); n != c.want || err != nil {
			t.Errorf("Add(%d, %d) = %d, %v, want %d", c.a, c.b, n, err, c.want)
		}
	}
}

func TestAddOverflow(t *testing.T) {
	for _, c := range [][2]int{
		{balance, 1},
		{1, balance},
		{balance, balance},
		{-balance, -1},
		{-1, -balance},
		{-balance, -balance},
		// The sum is in range, a part is not.
		{balance + 1, -5},
		{-5, balance + 1},
		{-balance - 1, 5},
		{5, -balance - 1},
		{balance + 1, -balance - 1},
		{math.MaxInt, -math.MaxInt},
		{math.MinInt, 0},
		{0, math.MaxInt},
		// The sum wraps around into the range.
		{math.MinInt, math.MinInt},
		{math.MaxInt, math.MaxInt},
	} {
		wantAddError(t, c[0], c[1])
	}
}

func wantAddError(t *testing.T, a, b int) {
	t.Helper()
	if n, err := money.Add(a, b); n != 0 || !errors.Is(err, api.ErrOverflow) {
		t.Errorf("Add(%d, %d) = %d, %v, want 0 and ErrOverflow", a, b, n, err)
	}
}

func TestSumInRange(t *testing.T) {
	for _, c := range []struct {
		ns   []int
		want int
	}{
		{nil, 0},
		{[]int{}, 0},
		{[]int{7}, 7},
		{[]int{-balance}, -balance},
		{[]int{5, -7, 1}, -1},
		{[]int{1, 2, 3, 4, 5}, 15},
		{[]int{balance, -1, 1}, balance},
		{[]int{balance, -balance, -balance, balance, 3}, 3},
	} {
		if n, err := money.Sum(c.ns...); n != c.want || err != nil {
			t.Errorf("Sum(%v) = %d, %v, want %d", c.ns, n, err, c.want)
		}
	}
	if n, err := money.Sum(); n != 0 || err != nil {
		t.Errorf("Sum() = %d, %v", n, err)
	}
}

func TestSumOverflow(t *testing.T) {
	for _, ns := range [][]int{
		{balance + 1},
		{math.MinInt},
		{math.MinInt, math.MinInt},
		// The whole sum is in range, a sum on the way is not.
		{balance, 1, -1},
		{-balance, -1, 1},
		{3, balance, -3},
		// A number itself is not in range.
		{-1, balance + 1},
		{1, 2, balance + 2, -balance - 2},
		{5, 6, math.MaxInt},
	} {
		if n, err := money.Sum(ns...); n != 0 || !errors.Is(err, api.ErrOverflow) {
			t.Errorf("Sum(%v) = %d, %v, want 0 and ErrOverflow", ns, n, err)
		}
	}
}

func TestSumLeavesArguments(t *testing.T) {
	ns := []int{5, -7, 1}
	money.Sum(ns...)
	if ns[0] != 5 || ns[1] != -7 || ns[2] != 1 {
		t.Errorf("Sum changed its arguments: %v", ns)
	}
}

// P1.2

func TestConvert(t *testing.T) {
	for _, c := range []struct{ n, num, den, quotient, rest int }{
		{7, 9, 10, 6, 3},
		{10, 9, 10, 9, 0},
		{1, 1, 1, 1, 0},
		{1, 9, 10, 0, 9},
		{1, 1, 1024, 0, 1},
		{1, 1024, 1, 1024, 0},
		{5, 1024, 1024, 5, 0},
		{150, 1, 151, 0, 150},
		{151, 1, 151, 1, 0},
		// The rate isn't reduced: the remainder is of Den as given.
		{5, 2, 4, 2, 2},
		{amount, 1, 1, amount, 0},
		{amount, 1, 1024, 1 << 30, 0},
		{amount, 1024, 1024, amount, 0},
		{amount - 1, 1, 1024, 1<<30 - 1, 1023},
		// The quotient is MaxAmount, with a remainder beside it.
		{1 << 30, 1024, 1, amount, 0},
		{733007751851, 3, 2, amount, 1},
	} {
		q, r, err := money.Convert(c.n, money.Rate{Num: c.num, Den: c.den})
		if q != c.quotient || r != c.rest || err != nil {
			t.Errorf("Convert(%d, %d/%d) = %d, %d, %v, want %d, %d", c.n, c.num, c.den, q, r, err, c.quotient, c.rest)
		}
	}
}

func TestConvertErrors(t *testing.T) {
	for _, c := range []struct {
		n, num, den int
		want        api.Errno
	}{
		{0, 1, 1, api.ErrArgument},
		{-1, 1, 1, api.ErrArgument},
		{amount + 1, 1, 1, api.ErrArgument},
		{amount + 1, 1, 2, api.ErrArgument},
		{math.MaxInt, 1, 1, api.ErrArgument},
		{math.MinInt, 1, 1, api.ErrArgument},
		{5, 0, 1, api.ErrArgument},
		{5, -1, 1, api.ErrArgument},
		{5, 1025, 1, api.ErrArgument},
		{5, math.MinInt, 1, api.ErrArgument},
		{5, math.MaxInt, 1, api.ErrArgument},
		{5, 1, 0, api.ErrArgument},
		{5, 1, -1, api.ErrArgument},
		{5, 1, 1025, api.ErrArgument},
		{5, 1, math.MinInt, api.ErrArgument},
		{5, 1, math.MaxInt, api.ErrArgument},
		{5, 0, 0, api.ErrArgument},
		{5, -1, -1, api.ErrArgument},
		// Both apply: ErrArgument is named first.
		{amount + 1, 1024, 1, api.ErrArgument},
		{amount, 1025, 1, api.ErrArgument},
		{amount, 150, 1, api.ErrOverflow},
		{amount, 1024, 1, api.ErrOverflow},
		{amount, 1024, 1023, api.ErrOverflow},
		{1<<30 + 1, 1024, 1, api.ErrOverflow},
		{733007751852, 3, 2, api.ErrOverflow},
	} {
		q, r, err := money.Convert(c.n, money.Rate{Num: c.num, Den: c.den})
		if q != 0 || r != 0 || !errors.Is(err, c.want) {
			t.Errorf("Convert(%d, %d/%d) = %d, %d, %v, want 0, 0, %v", c.n, c.num, c.den, q, r, err, c.want)
		}
	}
}

func TestConvertAgainstBigNumbers(t *testing.T) {
	ns := []int{1, 2, 3, 7, 160, 1023, 1024, 1025, 999999937, 1 << 30, amount / 3, amount - 1, amount}
	parts := []int{1, 2, 3, 9, 10, 11, 150, 151, 160, 161, 511, 1023, 1024}
	for _, n := range ns {
		for _, num := range parts {
			for _, den := range parts {
				checkConvert(t, n, num, den)
			}
		}
	}
}

func checkConvert(t *testing.T, n, num, den int) {
	t.Helper()
	product := new(big.Int).Mul(big.NewInt(int64(n)), big.NewInt(int64(num)))
	quotient, rest := new(big.Int).DivMod(product, big.NewInt(int64(den)), new(big.Int))
	q, r, err := money.Convert(n, money.Rate{Num: num, Den: den})
	if quotient.Cmp(big.NewInt(amount)) > 0 {
		if q != 0 || r != 0 || !errors.Is(err, api.ErrOverflow) {
			t.Errorf("Convert(%d, %d/%d) = %d, %d, %v, want ErrOverflow", n, num, den, q, r, err)
		}
		return
	}
	if int64(q) != quotient.Int64() || int64(r) != rest.Int64() || err != nil {
		t.Errorf("Convert(%d, %d/%d) = %d, %d, %v, want %v, %v", n, num, den, q, r, err, quotient, rest)
	}
}

// P1.3

func TestRates(t *testing.T) {
	want := [3][3]money.Rate{
		{{Num: 1, Den: 1}, {Num: 9, Den: 10}, {Num: 150, Den: 1}},
		{{Num: 11, Den: 10}, {Num: 1, Den: 1}, {Num: 160, Den: 1}},
		{{Num: 1, Den: 151}, {Num: 1, Den: 161}, {Num: 1, Den: 1}},
	}
	if got := money.Rates(); got != want {
		t.Errorf("Rates() = %v, want %v", got, want)
	}
}

func TestRatesAreNewEachTime(t *testing.T) {
	first := money.Rates()
	first[0][1] = money.Rate{Num: 5, Den: 6}
	if got := money.Rates()[0][1]; got != (money.Rate{Num: 9, Den: 10}) {
		t.Errorf("a change of one result shows in the next: %v", got)
	}
}
