package chart_test

import (
	"math"
	"slices"
	"testing"

	"hawala/api"
	"hawala/chart"
)

const balance = 1 << 50

// house is written out, so that New is not asked what New should be.
func house() []api.Account {
	return []api.Account{{Cur: 0}, {Cur: 0}, {Cur: 0}, {Cur: 1}, {Cur: 1}, {Cur: 1}, {Cur: 2}, {Cur: 2}, {Cur: 2}}
}

// with is the house's accounts and those of clients behind them.
func with(clients ...api.Account) []api.Account { return append(house(), clients...) }

// of has n accounts: the house's, as many as there is room for, and clients' of all currencies.
func of(n int) []api.Account {
	as := house()
	for k := len(as); k < n; k++ {
		as = append(as, api.Account{Cur: k % 3, Balance: k, Held: k / 2})
	}
	return as[:n]
}

// P7.1: kinds

func TestConstants(t *testing.T) {
	if chart.World != 0 || chart.Exchange != 1 || chart.Loss != 2 || chart.Client != 3 {
		t.Error(chart.World, chart.Exchange, chart.Loss, chart.Client)
	}
	if chart.House != 9 {
		t.Error(chart.House)
	}
}

func TestNew(t *testing.T) {
	if as := chart.New(); !slices.Equal(as, house()) {
		t.Error(as)
	}
}

func TestNewIsApart(t *testing.T) {
	a, b := chart.New(), chart.New()
	for k := range a {
		a[k] = api.Account{Cur: 7, Balance: 8, Held: 9}
	}
	_ = append(a[:4], api.Account{Cur: 5})
	if !slices.Equal(b, house()) || !slices.Equal(chart.New(), house()) {
		t.Error(b, chart.New())
	}
}

func TestNumber(t *testing.T) {
	for _, c := range []struct {
		k         chart.Kind
		cur, want int
	}{
		{chart.World, 0, 0}, {chart.Exchange, 0, 1}, {chart.Loss, 0, 2},
		{chart.World, 1, 3}, {chart.Exchange, 1, 4}, {chart.Loss, 1, 5},
		{chart.World, 2, 6}, {chart.Exchange, 2, 7}, {chart.Loss, 2, 8},
	} {
		if n := chart.Number(c.k, c.cur); n != c.want {
			t.Errorf("Number(%d, %d) = %d, not %d", c.k, c.cur, n, c.want)
		}
	}
}

func TestNumberOfNone(t *testing.T) {
	kinds := []chart.Kind{chart.Client, chart.Client + 1, -1, -2, -3, 6, 9, math.MaxInt, math.MinInt}
	currencies := []int{-1, -2, -3, 3, 4, 9, math.MaxInt, math.MinInt}
	for _, k := range kinds {
		for _, cur := range append([]int{0, 1, 2}, currencies...) {
			if n := chart.Number(k, cur); n != -1 {
				t.Errorf("Number(%d, %d) = %d", k, cur, n)
			}
		}
	}
	for _, k := range []chart.Kind{chart.World, chart.Exchange, chart.Loss} {
		for _, cur := range currencies {
			if n := chart.Number(k, cur); n != -1 {
				t.Errorf("Number(%d, %d) = %d", k, cur, n)
			}
		}
	}
}

func TestNumberWithNew(t *testing.T) {
	as := chart.New()
	for cur := range 3 {
		for k := chart.World; k < chart.Client; k++ {
			n := chart.Number(k, cur)
			if got, ok := chart.Of(as, n); got != k || !ok || as[n].Cur != cur {
				t.Errorf("Number(%d, %d) = %d, which is of %d and %d", k, cur, n, got, as[n].Cur)
			}
		}
	}
}

func TestOf(t *testing.T) {
	as := of(12)
	want := []chart.Kind{
		chart.World, chart.Exchange, chart.Loss,
		chart.World, chart.Exchange, chart.Loss,
		chart.World, chart.Exchange, chart.Loss,
		chart.Client, chart.Client, chart.Client,
	}
	for k, kind := range want {
		if got, ok := chart.Of(as, k); got != kind || !ok {
			t.Errorf("Of(12 accounts, %d) = %d, %t", k, got, ok)
		}
		if is := chart.IsClient(as, k); is != (kind == chart.Client) {
			t.Errorf("IsClient(12 accounts, %d) = %t", k, is)
		}
	}
}

func TestOfNone(t *testing.T) {
	for _, n := range []int{0, 1, 8, 9, 10, 64, 65} {
		for _, k := range []int{-1, -2, -3, -9, math.MinInt, n, n + 1, n + 9, math.MaxInt} {
			if kind, ok := chart.Of(of(n), k); kind != chart.World || ok {
				t.Errorf("Of(%d accounts, %d) = %d, %t", n, k, kind, ok)
			}
			if chart.IsClient(of(n), k) {
				t.Errorf("IsClient(%d accounts, %d)", n, k)
			}
		}
	}
	for _, k := range []int{-1, 0, 8, 9} {
		if kind, ok := chart.Of(nil, k); kind != chart.World || ok || chart.IsClient(nil, k) {
			t.Errorf("Of(nil, %d) = %d, %t", k, kind, ok)
		}
	}
}

// Of asks for the index alone: not for the currency, nor whether the accounts are valid, nor what stands in a slice's room behind its length.
func TestOfByIndexAlone(t *testing.T) {
	as := make([]api.Account, 66)
	for k := range as {
		as[k] = api.Account{Cur: -7, Balance: math.MinInt, Held: math.MaxInt}
	}
	for k, want := range map[int]chart.Kind{0: chart.World, 4: chart.Exchange, 8: chart.Loss, 9: chart.Client, 63: chart.Client, 64: chart.Client, 65: chart.Client} {
		if kind, ok := chart.Of(as, k); kind != want || !ok {
			t.Errorf("Of(66 accounts, %d) = %d, %t", k, kind, ok)
		}
		if chart.IsClient(as, k) != (k >= 9) {
			t.Errorf("IsClient(66 accounts, %d)", k)
		}
	}
	if kind, ok := chart.Of(as[:5], 4); kind != chart.Exchange || !ok {
		t.Error(kind, ok)
	}
	if kind, ok := chart.Of(as[:5], 5); kind != chart.World || ok {
		t.Error(kind, ok)
	}
}

// P7.2: lists of accounts

func TestRightLengths(t *testing.T) {
	for n, want := range map[int]bool{0: false, 1: false, 8: false, 9: true, 10: true, 63: true, 64: true, 65: false, 128: false} {
		if chart.Right(of(n)) != want {
			t.Errorf("Right(%d accounts) = %t", n, !want)
		}
	}
	if chart.Right(nil) || chart.Right([]api.Account{}) {
		t.Error("no accounts are valid")
	}
	if !chart.Right(chart.New()) {
		t.Error("the house's accounts are not valid")
	}
}

func TestRightClients(t *testing.T) {
	for _, c := range []struct {
		a    api.Account
		want bool
	}{
		{api.Account{}, true},
		{api.Account{Cur: -1}, false},
		{api.Account{Cur: 0, Balance: 5}, true},
		{api.Account{Cur: 1, Balance: 5}, true},
		{api.Account{Cur: 2, Balance: 5}, true},
		{api.Account{Cur: 3, Balance: 5}, false},
		{api.Account{Cur: math.MaxInt}, false},
		{api.Account{Cur: math.MinInt}, false},
		{api.Account{Balance: balance}, true},
		{api.Account{Balance: balance, Held: balance}, true},
		{api.Account{Balance: balance, Held: balance + 1}, false},
		{api.Account{Balance: balance + 1}, false},
		{api.Account{Balance: balance + 1, Held: balance + 1}, false},
		{api.Account{Balance: math.MaxInt, Held: 1}, false},
		{api.Account{Balance: 50, Held: -1}, false},
		{api.Account{Balance: 50, Held: 0}, true},
		{api.Account{Balance: 50, Held: 1}, true},
		{api.Account{Balance: 50, Held: 49}, true},
		{api.Account{Balance: 50, Held: 50}, true},
		{api.Account{Balance: 50, Held: 51}, false},
		{api.Account{Balance: 50, Held: math.MaxInt}, false},
		{api.Account{Balance: 50, Held: math.MinInt}, false}, // what is free wraps around here
		{api.Account{Balance: 0, Held: 1}, false},
		{api.Account{Balance: -1}, false},
		{api.Account{Balance: -1, Held: -1}, false},
		{api.Account{Balance: -1, Held: -2}, false},
		{api.Account{Balance: -balance}, false},
		{api.Account{Balance: math.MinInt, Held: 1}, false},
	} {
		// A client's account is asked wherever it stands: first, between others, last.
		for _, as := range [][]api.Account{
			with(c.a),
			with(c.a, api.Account{Balance: 1}),
			with(api.Account{Cur: 1}, c.a, api.Account{Cur: 2}),
			append(of(63), c.a),
		} {
			if chart.Right(as) != c.want {
				t.Errorf("Right(%v) = %t", as, !c.want)
			}
		}
	}
}

func TestRightHouse(t *testing.T) {
	for k := range 9 {
		for _, b := range []int{0, 1, -1, balance, -balance} {
			as := of(11)
			as[k].Balance = b
			if !chart.Right(as) || !chart.Right(as[:9]) {
				t.Errorf("account %d of the house can't have %d", k, b)
			}
		}
		for _, b := range []int{balance + 1, -balance - 1, math.MaxInt, math.MinInt} {
			as := of(11)
			as[k].Balance = b
			if chart.Right(as) || chart.Right(as[:9]) {
				t.Errorf("account %d of the house has %d", k, b)
			}
		}
		for _, held := range []int{-1, 1, 50, 51, -50, balance, math.MaxInt, math.MinInt} {
			as := of(11)
			as[k].Balance, as[k].Held = 50, held
			if chart.Right(as) || chart.Right(as[:9]) {
				t.Errorf("account %d of the house has %d held", k, held)
			}
		}
	}
}

func TestRightHouseCurrencies(t *testing.T) {
	own := []int{0, 0, 0, 1, 1, 1, 2, 2, 2}
	for k := range 9 {
		for _, cur := range []int{-1, 0, 1, 2, 3, math.MaxInt, math.MinInt} {
			as := of(11)
			as[k].Cur = cur
			if want := cur == own[k]; chart.Right(as) != want || chart.Right(as[:9]) != want {
				t.Errorf("account %d of the house is of %d: not %t", k, cur, want)
			}
		}
	}
}

func TestFree(t *testing.T) {
	for _, c := range []struct {
		a    api.Account
		want int
	}{
		{api.Account{}, 0},
		{api.Account{Cur: 2, Balance: 50, Held: 20}, 30},
		{api.Account{Balance: 50}, 50},
		{api.Account{Balance: 50, Held: 50}, 0},
		{api.Account{Balance: 50, Held: 51}, -1},
		{api.Account{Balance: 50, Held: -1}, 51},
		{api.Account{Balance: -50}, -50},
		{api.Account{Balance: balance}, balance},
		{api.Account{Balance: -balance, Held: balance}, -2 * balance},
		{api.Account{Cur: -1, Balance: 7, Held: 3}, 4},
		{api.Account{Balance: math.MinInt, Held: 1}, math.MaxInt},
		{api.Account{Balance: math.MaxInt, Held: -1}, math.MinInt},
	} {
		if n := chart.Free(c.a); n != c.want {
			t.Errorf("Free(%v) = %d, not %d", c.a, n, c.want)
		}
	}
}

func TestSums(t *testing.T) {
	for _, c := range []struct {
		as   []api.Account
		want [3]int
	}{
		{nil, [3]int{}},
		{[]api.Account{}, [3]int{}},
		{house(), [3]int{}},
		{[]api.Account{{Cur: 1, Balance: 4}}, [3]int{0, 4, 0}},
		{[]api.Account{{Cur: 0, Balance: 1}, {Cur: 1, Balance: 20}, {Cur: 2, Balance: 300}}, [3]int{1, 20, 300}},
		{[]api.Account{{Cur: 2, Balance: 50}, {Cur: 0, Balance: 5}, {Cur: 2, Balance: -20}, {Cur: 0, Balance: -5}}, [3]int{0, 0, 30}},
		{[]api.Account{{Cur: 0, Balance: 50, Held: 20}}, [3]int{50, 0, 0}},
		{[]api.Account{{Cur: 0, Balance: 1}, {Cur: -1, Balance: 2}, {Cur: 3, Balance: 4}, {Cur: 2, Balance: 8}}, [3]int{1, 0, 8}},
		{[]api.Account{{Cur: math.MinInt, Balance: 2}, {Cur: math.MaxInt, Balance: 4}, {Cur: 6, Balance: 8}, {Cur: -3, Balance: 16}}, [3]int{}},
		{[]api.Account{{Cur: 1, Balance: balance}, {Cur: 1, Balance: balance}}, [3]int{0, 2 * balance, 0}},
		{[]api.Account{{Cur: 1, Balance: math.MaxInt}, {Cur: 1, Balance: 1}}, [3]int{0, math.MinInt, 0}},
	} {
		if sums := chart.Sums(c.as); sums != c.want {
			t.Errorf("Sums(%v) = %v, not %v", c.as, sums, c.want)
		}
	}
}

// More accounts than may be still have sums.
func TestSumsOfMany(t *testing.T) {
	var as []api.Account
	for k := range 1000 {
		as = append(as, api.Account{Cur: k%5 - 1, Balance: k})
	}
	// Of each five accounts one is of -1 and one of 3; the others have 5i + 1, 5i + 2 and 5i + 3, for i up to 199.
	if sums := chart.Sums(as); sums != [3]int{99700, 99900, 100100} {
		t.Error(sums)
	}
}

func TestClone(t *testing.T) {
	for _, n := range []int{0, 1, 8, 9, 10, 64, 65} {
		if as := chart.Clone(of(n)); !slices.Equal(as, of(n)) {
			t.Errorf("Clone(%d accounts) = %v", n, as)
		}
	}
	if as := chart.Clone(nil); len(as) != 0 {
		t.Error(as)
	}
	odd := []api.Account{{Cur: -1, Balance: math.MinInt, Held: math.MaxInt}, {Cur: 3, Balance: 1, Held: 2}}
	if as := chart.Clone(odd); !slices.Equal(as, odd) {
		t.Error(as)
	}
}

func TestCloneIsApart(t *testing.T) {
	as := of(12)
	first, second := chart.Clone(as), chart.Clone(as)
	first[9].Balance, first[0].Cur = 1000, 2
	_ = append(first[:10], api.Account{Held: 7})
	if !slices.Equal(as, of(12)) || !slices.Equal(second, of(12)) {
		t.Error(as, second)
	}
	as[11].Held = -1
	if !slices.Equal(second, of(12)) {
		t.Error(second)
	}
}

// A clone of no accounts has no room of the argument's behind it.
func TestCloneOfAnEmptyPiece(t *testing.T) {
	as := of(12)
	_ = append(chart.Clone(as[:0]), api.Account{Cur: 9})
	_ = append(chart.Clone(as[:9]), api.Account{Cur: 9})
	if !slices.Equal(as, of(12)) {
		t.Error(as)
	}
}

// W6: no function changes the accounts that it is given.
func TestArgumentsStay(t *testing.T) {
	wrong := of(12)
	wrong[10] = api.Account{Cur: 5, Balance: -3, Held: 8}
	for _, as := range [][]api.Account{of(12), wrong, of(65)} {
		before := slices.Clone(as)
		chart.Of(as, 10)
		chart.IsClient(as, 10)
		chart.Right(as)
		chart.Sums(as)
		chart.Clone(as)
		if !slices.Equal(as, before) {
			t.Error(as)
		}
	}
}

// The chapter's example.
func TestExample(t *testing.T) {
	if n := chart.Number(chart.Loss, 1); n != 5 {
		t.Error(n)
	}
}

// Drawn lists against a plain second reading of the chapter.

type draw uint64

func (s *draw) below(n int) int {
	*s = *s*6364136223846793005 + 1442695040888963407
	return int(uint64(*s)>>33) % n
}

// number is mostly what may be, sometimes at an edge.
func (s *draw) number() int {
	edges := []int{-1, 0, 1, 50, 51, balance, balance + 1, -balance, -balance - 1, math.MaxInt, math.MinInt}
	return edges[s.below(len(edges))]
}

// accounts are about as often valid as not: a valid list, of which at most two numbers are changed.
func (s *draw) accounts() []api.Account {
	as := of(s.below(68))
	for range s.below(3) {
		if len(as) == 0 {
			break
		}
		a := &as[s.below(len(as))]
		switch s.below(4) {
		case 0:
			a.Cur = s.below(5) - 1
		case 1:
			a.Balance = s.number()
		case 2:
			a.Held = s.number()
		case 3:
			a.Balance = s.number()
			a.Held = a.Balance + s.below(3) - 1
		}
	}
	return as
}

func validByReading(as []api.Account) bool {
	valid := 9 <= len(as) && len(as) <= 64
	own := "000111222"
	for k, a := range as {
		valid = valid && (a.Cur == 0 || a.Cur == 1 || a.Cur == 2)
		valid = valid && -(1<<50) <= a.Balance && a.Balance <= 1<<50
		if k <= 8 {
			valid = valid && a.Cur == int(own[k]-'0') && a.Held == 0
		} else {
			valid = valid && a.Held >= 0 && a.Balance >= a.Held
		}
	}
	return valid
}

func TestDrawn(t *testing.T) {
	s := draw(7)
	yes, no := 0, 0
	for range 20000 {
		as := s.accounts()
		want := validByReading(as)
		if chart.Right(as) != want {
			t.Fatalf("Right(%v) = %t", as, !want)
		}
		if want {
			yes++
		} else {
			no++
		}
		sums := [3]int{}
		for cur := range sums {
			for _, a := range as {
				if a.Cur == cur {
					sums[cur] += a.Balance
				}
			}
		}
		if got := chart.Sums(as); got != sums {
			t.Fatalf("Sums(%v) = %v", as, got)
		}
	}
	if yes < 2000 || no < 2000 {
		t.Errorf("%d valid, %d not: too few of one", yes, no)
	}
}
