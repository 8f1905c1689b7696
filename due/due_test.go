package due_test

import (
	"math"
	"slices"
	"testing"

	"hawala/api"
	"hawala/due"
)

const latest = 1 << 30 // tick

// noPayments are the two ways to have none.
var noPayments = [][]api.Payment{nil, {}}

// anyInts are of all sizes: a payment that is not valid may have any int.
var anyInts = []int{math.MinInt, math.MinInt + 1, -latest, -2, -1, 0, 1, 2, 7, latest - 1, latest, latest + 1, math.MaxInt - 1, math.MaxInt}

// notOpen are Closed, and no stage at all.
var notOpen = []api.Stage{api.Closed, 2, -1, math.MinInt, math.MaxInt}

// until is a valid payment that is open.
func until(n int) api.Payment {
	return api.Payment{From: 9, To: 11, Auth: 100, Captured: 40, Refunded: 10, Charged: 5, Until: n}
}

// staged is one of another stage.
func staged(n int, s api.Stage) api.Payment {
	p := until(n)
	p.Stage = s
	return p
}

// untils are such payments, all of them open.
func untils(ns ...int) []api.Payment {
	ps := []api.Payment{}
	for _, n := range ns {
		ps = append(ps, until(n))
	}
	return ps
}

// of has n payments, each with the Until that a rule gives.
func of(n int, rule func(at int) int) []api.Payment {
	ps := []api.Payment{}
	for at := range n {
		ps = append(ps, until(rule(at)))
	}
	return ps
}

// with is payments of their own, one of them another.
func with(ps []api.Payment, at int, p api.Payment) []api.Payment {
	own := slices.Clone(ps)
	own[at] = p
	return own
}

// allByReading has nothing of a heap: time and again it looks for the first of the least ones that are left.
func allByReading(ps []api.Payment) []int {
	order, taken := []int{}, make([]bool, len(ps))
	for {
		first := -1
		for at, p := range ps {
			if p.Stage == api.Open && !taken[at] && (first < 0 || p.Until < ps[first].Until) {
				first = at
			}
		}
		if first < 0 {
			return order
		}
		taken[first] = true
		order = append(order, first)
	}
}

func all(t *testing.T, ps []api.Payment, want ...int) {
	t.Helper()
	if got := due.All(ps); !slices.Equal(got, want) {
		t.Errorf("All(%+v) = %v, not %v", ps, got, want)
	}
}

func by(t *testing.T, ps []api.Payment, now int, want ...int) {
	t.Helper()
	if got := due.By(ps, now); !slices.Equal(got, want) {
		t.Errorf("By(%+v, %d) = %v, not %v", ps, now, got, want)
	}
}

func next(t *testing.T, ps []api.Payment, want int) {
	t.Helper()
	if got, ok := due.Next(ps); got != want || !ok {
		t.Errorf("Next(%+v) = %d, %t, not %d, true", ps, got, ok, want)
	}
}

func noNext(t *testing.T, ps []api.Payment) {
	t.Helper()
	if got, ok := due.Next(ps); got != 0 || ok {
		t.Errorf("Next(%+v) = %d, %t, not 0, false", ps, got, ok)
	}
}

// none asks all three of payments of which none is open.
func none(t *testing.T, ps []api.Payment) {
	t.Helper()
	all(t, ps)
	for _, now := range anyInts {
		by(t, ps, now)
	}
	noNext(t, ps)
}

// nowsOf are those at which what By gives may change, and those far from them.
func nowsOf(ps []api.Payment) []int {
	nows := slices.Clone(anyInts)
	for _, p := range ps {
		nows = append(nows, p.Until-1, p.Until, p.Until+1)
	}
	slices.Sort(nows)
	return slices.Compact(nows)
}

// agree holds all three against the second reading of the chapter.
func agree(t *testing.T, ps []api.Payment) {
	t.Helper()
	order := allByReading(ps)
	all(t, ps, order...)
	for _, now := range nowsOf(ps) {
		n := 0
		for n < len(order) && ps[order[n]].Until <= now {
			n++
		}
		by(t, ps, now, order[:n]...)
	}
	if len(order) == 0 {
		noNext(t, ps)
	} else {
		next(t, ps, ps[order[0]].Until)
	}
}

// P13.1: the chapter's example

func TestExample(t *testing.T) {
	ps := untils(5, 3, 5)
	all(t, ps, 1, 0, 2)
	by(t, ps, 2)
	by(t, ps, 3, 1)
	by(t, ps, 4, 1)
	by(t, ps, 5, 1, 0, 2)
	next(t, ps, 3)
}

// P13.1: All

func TestAll(t *testing.T) {
	all(t, untils(7, 2, 9, 4), 1, 3, 0, 2)
	all(t, untils(1, 2, 3, 4), 0, 1, 2, 3)
	all(t, untils(4, 3, 2, 1), 3, 2, 1, 0)
	all(t, untils(3, 1, 3, 1, 2, 1), 1, 3, 5, 4, 0, 2)
	all(t, []api.Payment{until(7), staged(3, api.Closed), until(5), staged(1, 2), until(7), until(2)}, 5, 2, 0, 4)
}

func TestNoPayments(t *testing.T) {
	for _, ps := range noPayments {
		none(t, ps)
	}
}

func TestOnePayment(t *testing.T) {
	for _, n := range anyInts {
		ps := untils(n)
		all(t, ps, 0)
		next(t, ps, n)
		for _, now := range anyInts {
			if n <= now {
				by(t, ps, now, 0)
			} else {
				by(t, ps, now)
			}
		}
		for _, s := range notOpen {
			none(t, []api.Payment{staged(n, s)})
		}
	}
}

// Only Open is open: neither Closed nor what is no stage.
func TestNoneOpen(t *testing.T) {
	for n := 1; n <= 20; n++ {
		ps := of(n, func(at int) int { return at * 7 % 5 })
		for at := range ps {
			ps[at].Stage = notOpen[at%len(notOpen)]
		}
		none(t, ps)
		for at := range ps {
			one := with(ps, at, until(3))
			all(t, one, at)
			by(t, one, 2)
			by(t, one, 3, at)
			next(t, one, 3)
		}
	}
}

// Those that are not open don't count, wherever they are, and leave the others' indices as they are.
func TestSomeOpen(t *testing.T) {
	ps := untils(5, 1, 4, 1, 5, 3)
	for set := range 1 << len(ps) {
		for _, s := range notOpen {
			some := slices.Clone(ps)
			for at := range some {
				if set>>at&1 == 1 {
					some[at].Stage = s
				}
			}
			agree(t, some)
		}
	}
	all(t, with(ps, 0, staged(5, api.Closed)), 1, 3, 5, 2, 4)
	all(t, with(ps, 5, staged(3, api.Closed)), 1, 3, 2, 0, 4)
	all(t, with(with(ps, 0, staged(5, 2)), 5, staged(3, -1)), 1, 3, 2, 4)
	all(t, with(with(ps, 1, staged(1, 2)), 4, staged(5, -1)), 3, 5, 2, 0)
}

func TestEqualUntils(t *testing.T) {
	for _, u := range anyInts {
		for _, n := range []int{2, 3, 4, 5, 8, 13, 64, 65} {
			ps, order := of(n, func(int) int { return u }), []int{}
			for at := range n {
				order = append(order, at)
			}
			all(t, ps, order...)
			by(t, ps, u, order...)
			by(t, ps, math.MaxInt, order...)
			next(t, ps, u)
			if u > math.MinInt {
				by(t, ps, u-1)
				by(t, ps, math.MinInt)
			}
		}
	}
}

// The order is that of the ints, also of those whose difference is none.
func TestFarUntils(t *testing.T) {
	ps := untils(math.MaxInt, 0, math.MinInt, -1, 1, math.MinInt, math.MaxInt, latest, -latest)
	all(t, ps, 2, 5, 8, 3, 1, 4, 7, 0, 6)
	by(t, ps, math.MinInt, 2, 5)
	by(t, ps, -2, 2, 5, 8)
	by(t, ps, 0, 2, 5, 8, 3, 1)
	by(t, ps, math.MaxInt-1, 2, 5, 8, 3, 1, 4, 7)
	by(t, ps, math.MaxInt, 2, 5, 8, 3, 1, 4, 7, 0, 6)
	next(t, ps, math.MinInt)
	for _, a := range anyInts {
		for _, b := range anyInts {
			agree(t, untils(a, b))
			agree(t, untils(b, a, b, a))
		}
	}
}

// Whatever else stands in a payment does not count.
func TestOtherNumbers(t *testing.T) {
	for _, n := range anyInts {
		ps := []api.Payment{
			{From: n, Until: 5}, {To: n, Until: 3}, {Auth: n, Until: 5}, {Captured: n, Until: 4},
			{Refunded: n, Until: 3}, {Charged: n, Until: 9}, {From: n, To: n, Auth: n, Captured: n, Refunded: n, Charged: n, Until: 4},
			{From: n, To: n, Auth: n, Captured: n, Refunded: n, Charged: n, Until: 1, Stage: api.Closed},
		}
		all(t, ps, 1, 4, 3, 6, 0, 2, 5)
		by(t, ps, 4, 1, 4, 3, 6)
		next(t, ps, 3)
		none(t, ps[7:])
	}
	all(t, make([]api.Payment, 3), 0, 1, 2)
	next(t, make([]api.Payment, 3), 0)
}

// P13.1: By

func TestBy(t *testing.T) {
	ps := []api.Payment{until(20), until(10), staged(5, api.Closed), until(30), until(10), staged(20, 2), until(20)}
	for _, c := range []struct {
		now  int
		want []int
	}{
		{math.MinInt, nil}, {-1, nil}, {0, nil}, {5, nil}, {9, nil},
		{10, []int{1, 4}}, {11, []int{1, 4}}, {19, []int{1, 4}},
		{20, []int{1, 4, 0, 6}}, {21, []int{1, 4, 0, 6}}, {29, []int{1, 4, 0, 6}},
		{30, []int{1, 4, 0, 6, 3}}, {31, []int{1, 4, 0, 6, 3}}, {latest, []int{1, 4, 0, 6, 3}}, {math.MaxInt, []int{1, 4, 0, 6, 3}},
	} {
		by(t, ps, c.now, c.want...)
	}
}

func TestByBelowZero(t *testing.T) {
	ps := untils(-1, 0, -3, 1)
	by(t, ps, -4)
	by(t, ps, -3, 2)
	by(t, ps, -2, 2)
	by(t, ps, -1, 2, 0)
	by(t, ps, 0, 2, 0, 1)
	by(t, ps, 1, 2, 0, 1, 3)
}

// P13.1: Next

func TestNext(t *testing.T) {
	next(t, untils(7, 3, 5), 3)
	next(t, untils(3, 5, 7), 3)
	next(t, untils(7, 5, 3), 3)
	next(t, untils(3, 3), 3)
}

// 0 is an Until as well as what stands beside false.
func TestNextAtZeroOrBelow(t *testing.T) {
	next(t, untils(0), 0)
	next(t, untils(4, 0, 2), 0)
	next(t, untils(0, -1), -1)
	next(t, untils(2, -7, 0), -7)
	next(t, untils(math.MinInt, 3), math.MinInt)
	next(t, []api.Payment{{}}, 0)
}

func TestNextBehindOneNotOpen(t *testing.T) {
	for _, s := range notOpen {
		for _, least := range []int{math.MinInt, -1, 0, 2} {
			next(t, []api.Payment{staged(least, s), until(7), until(3)}, 3)
			next(t, []api.Payment{until(7), staged(least, s), until(3)}, 3)
			next(t, []api.Payment{until(7), until(3), staged(least, s)}, 3)
			noNext(t, []api.Payment{staged(least, s), staged(7, s)})
		}
	}
}

// P13.1, against the second reading

func TestAllSmallLists(t *testing.T) {
	kinds := []api.Payment{until(-1), until(0), until(1), until(2), staged(0, api.Closed), staged(-2, 2)}
	lists := 1
	for n := 0; n <= 5; n++ {
		for k := range lists {
			ps := []api.Payment{}
			for range n {
				ps = append(ps, kinds[k%len(kinds)])
				k /= len(kinds)
			}
			agree(t, ps)
		}
		lists *= len(kinds)
	}
}

// orders gives each order of what is in ns from a place on.
func orders(ns []int, from int, give func([]int)) {
	if from == len(ns) {
		give(ns)
		return
	}
	for at := from; at < len(ns); at++ {
		ns[from], ns[at] = ns[at], ns[from]
		orders(ns, from+1, give)
		ns[from], ns[at] = ns[at], ns[from]
	}
}

func TestAllOrders(t *testing.T) {
	for _, ns := range [][]int{{1, 2, 3}, {1, 2, 3, 4, 5, 6, 7}, {1, 1, 2, 2, 3, 3, 3}, {5, 5, 5, 5, 9, 0}} {
		orders(ns, 0, func(ns []int) {
			ps := untils(ns...)
			order := allByReading(ps)
			all(t, ps, order...)
			next(t, ps, ps[order[0]].Until)
		})
	}
}

func TestSeveralHundred(t *testing.T) {
	const n = 500
	rules := []func(at int) int{
		func(at int) int { return at },
		func(at int) int { return n - at },
		func(at int) int { return -at },
		func(at int) int { return at * 263 % n },
		func(at int) int { return at * 263 % 7 },
		func(at int) int { return at / 100 },
		func(at int) int { return (n - at) / 100 },
		func(at int) int { return 7 },
		func(at int) int { return anyInts[at*5%len(anyInts)] },
	}
	for _, rule := range rules {
		ps := of(n, rule)
		agree(t, ps)
		for at := range ps {
			if at%3 == 1 {
				ps[at].Stage = notOpen[at%len(notOpen)]
			}
		}
		agree(t, ps)
	}
}

type draw uint64

func (s *draw) below(n int) int {
	*s = *s*6364136223846793005 + 1442695040888963407
	return int(uint64(*s)>>33) % n
}

func (s *draw) of(ns ...int) int { return ns[s.below(len(ns))] }

// payments are up to 80, most of them open, their Untils from a few, from many, or of all sizes.
func (s *draw) payments() []api.Payment {
	ps, spread := []api.Payment{}, s.of(1, 3, 10, 1000, latest)
	for range s.below(81) {
		p := until(s.of(s.below(spread), s.below(spread), s.below(spread), spread, -s.below(spread)))
		if s.below(10) == 0 {
			p.Until = s.of(anyInts...)
		}
		if s.below(4) == 0 {
			p.Stage = notOpen[s.below(len(notOpen))]
		}
		ps = append(ps, p)
	}
	return ps
}

func TestDrawn(t *testing.T) {
	s := draw(31)
	for range 2000 {
		agree(t, s.payments())
	}
}

// W2: what was asked ahead, of others too, does not count.
func TestAskedAgain(t *testing.T) {
	ps := untils(5, 3, 5)
	for _, others := range [][]api.Payment{nil, untils(1), untils(9, 8, 7, 6), {staged(3, api.Closed)}, of(100, func(at int) int { return -at })} {
		agree(t, others)
		all(t, ps, 1, 0, 2)
		by(t, ps, 4, 1)
		next(t, ps, 3)
	}
}

// W6: no call changes the payments that it is given, nor what stands in the room behind them, and none of that counts.
func TestGivenUnchanged(t *testing.T) {
	whole := []api.Payment{until(5), until(3), staged(1, api.Closed), until(5), until(0), until(-1), staged(2, 2), until(4)}
	for n := range len(whole) + 1 {
		room := slices.Clone(whole)
		ps := room[:n]
		want := allByReading(whole[:n])
		for _, now := range nowsOf(whole) {
			all(t, ps, want...)
			due.By(ps, now)
			due.Next(ps)
			if !slices.Equal(room, whole) {
				t.Fatalf("of the first %d, at %d: %+v, not %+v", n, now, room, whole)
			}
		}
		agree(t, ps)
	}
	agree(t, slices.Clone(whole)[2:5:5])
	agree(t, slices.Clone(whole)[2:5])
}

// spoil writes over a list, and over the room behind it.
func spoil(ns []int) {
	for at := range ns[:cap(ns)] {
		ns[:cap(ns)][at] = -77
	}
}

// W6: what comes back is nobody else's.
func TestGivesItsOwn(t *testing.T) {
	for _, ps := range [][]api.Payment{untils(5, 3, 5), untils(1), of(70, func(at int) int { return at * 11 % 13 }), nil} {
		order := allByReading(ps)
		lists := [][]int{due.All(ps), due.By(ps, math.MaxInt), due.All(ps), due.By(ps, math.MaxInt), due.All(ps)}
		for at, list := range lists {
			if !slices.Equal(list, order) {
				t.Errorf("of %+v: %v, not %v", ps, list, order)
			}
			spoil(list)
			for _, later := range lists[at+1:] {
				if !slices.Equal(later, order) {
					t.Errorf("of %+v: %v, not %v, once another was written over", ps, later, order)
				}
			}
			agree(t, ps)
		}
	}
}

// W6: nothing that was given is kept: payments that change later are asked for as they are then.
func TestKeepsNothing(t *testing.T) {
	ps := untils(5, 3, 5)
	first := due.All(ps)
	ps[0].Until, ps[1].Stage = 9, api.Closed
	all(t, ps, 2, 0)
	by(t, ps, 5, 2)
	next(t, ps, 5)
	if !slices.Equal(first, []int{1, 0, 2}) {
		t.Error(first)
	}
}
