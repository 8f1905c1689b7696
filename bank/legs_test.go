package bank_test

import (
	"math"
	"slices"
	"testing"

	"hawala/api"
	"hawala/bank"
	"hawala/chart"
	"hawala/ops"
)

// long is a transfer to which so many legs must agree.
func long(a, b, n, legs int) api.Request {
	return api.Request{Key: 39, Op: api.OpTransfer, A: a, B: b, Amount: n, Legs: legs}
}

// says is answers: y agrees, n does not.
func says(text string) []bool {
	legs := []bool{}
	for _, c := range text {
		legs = append(legs, c == 'y')
	}
	return legs
}

func repeat(ok bool, n int) []bool { return slices.Repeat([]bool{ok}, n) }

// settles does a transfer of 30 from 9 to 10 with so many legs, which goes through, and uses so many answers.
func settles(t *testing.T, n int, legs []bool, used int) {
	t.Helper()
	does(t, base(), long(9, 10, 30, n), legs, api.Reply{}, used, moved(base(), 9, -30, 10, 30))
}

// turnsBack does the same transfer, to which a leg does not agree.
func turnsBack(t *testing.T, n int, legs []bool, used int) {
	t.Helper()
	does(t, base(), long(9, 10, 30, n), legs, api.Reply{Err: api.ErrLeg}, used, base())
}

// P16.1, 4: which requests ask legs

func TestLegsOfATransfer(t *testing.T) {
	atOnce(t, base(), long(9, 10, 30, 0), api.Reply{}, moved(base(), 9, -30, 10, 30))
	for n := 1; n <= 4; n++ {
		settles(t, n, repeat(true, n), n)
		turnsBack(t, n, repeat(false, 4), 4)
	}
	if api.MaxLegs != 4 || api.Retries != 3 {
		t.Error(api.MaxLegs, api.Retries)
	}
}

// P16.1, 4: how many answers are used

func TestNoAnswers(t *testing.T) {
	for n := 1; n <= 4; n++ {
		settles(t, n, nil, 0)
		settles(t, n, []bool{}, 0)
	}
}

// Behind the last answer every leg agrees.
func TestFewerAnswersThanAreAskedFor(t *testing.T) {
	for n := 1; n <= 4; n++ {
		for k := range n {
			settles(t, n, repeat(true, k), k)
		}
		for k := range 4 {
			settles(t, n, repeat(false, k), k)
		}
	}
	settles(t, 2, says("ynn"), 3)
	settles(t, 2, says("nnnynnn"), 7)
	settles(t, 4, says("nnnynnnynnnynnn"), 15)
	settles(t, 4, says("nnnyy"), 5)
}

func TestMoreAnswersThanAreAskedFor(t *testing.T) {
	for n := 1; n <= 4; n++ {
		for _, more := range []string{"y", "n", "nnnn", "ynynynynynynyn"} {
			settles(t, n, append(repeat(true, n), says(more)...), n)
			turnsBack(t, n, append(repeat(false, 4), says(more)...), 4)
		}
		for _, m := range []int{5, 17, 300} {
			settles(t, n, repeat(true, n+m), n)
			turnsBack(t, n, repeat(false, m), 4)
		}
	}
}

// A leg agrees at its last try, or does not at the one behind it.
func TestTheLastTryOfALeg(t *testing.T) {
	for n := 1; n <= 4; n++ {
		for leg := range n {
			before, behind := repeat(true, leg), repeat(true, n-leg-1)
			for tries := range 4 {
				settles(t, n, slices.Concat(before, repeat(false, tries), says("y"), behind), n+tries)
			}
			turnsBack(t, n, slices.Concat(before, repeat(false, 4), says("y"), behind), leg+4)
			turnsBack(t, n, slices.Concat(before, repeat(false, 4)), leg+4)
			turnsBack(t, n, slices.Concat(before, repeat(false, 5)), leg+4)
		}
	}
}

// The tries are counted anew for each leg.
func TestTriesOfEachLeg(t *testing.T) {
	settles(t, 1, says("nnny"), 4)
	settles(t, 2, says("nnnynnny"), 8)
	settles(t, 3, says("nnnynnnynnny"), 12)
	settles(t, 4, says("nnnynnnynnnynnny"), 16)
	settles(t, 4, says("nnnynnnynnnynnnyn"), 16)
	turnsBack(t, 4, says("nnnynnnynnnynnnn"), 16)
	turnsBack(t, 4, says("nnnynnnynnnynnnny"), 16)
	turnsBack(t, 4, says("nnnynnnynnnny"), 12)
	turnsBack(t, 4, says("nnnynnnny"), 8)
	settles(t, 4, says("nynynyny"), 8)
	settles(t, 4, says("nnyynynnnyn"), 10)
	settles(t, 2, says("nnyny"), 5)
	turnsBack(t, 2, says("nnynnnny"), 7)
}

// agree tells by the chapter whether so many legs agree, and how many answers they use.
func agree(n int, legs []bool) (bool, int) {
	used := 0
	for range n {
		for tries := 0; used < len(legs) && !legs[used]; {
			used++
			tries++
			if tries == 4 {
				return false, used
			}
		}
		used = min(used+1, len(legs))
	}
	return true, used
}

// Each list of up to eight answers, and each number of legs.
func TestAnswersByReading(t *testing.T) {
	s := base()
	settled, seen := moved(s, 9, -30, 10, 30), map[[2]int]int{}
	for size := range 9 {
		for bits := range 1 << size {
			legs := []bool{}
			for k := range size {
				legs = append(legs, bits>>k&1 == 1)
			}
			for n := 1; n <= 4; n++ {
				r, reply, want := long(9, 10, 30, n), api.Reply{}, settled
				ok, used := agree(n, legs)
				if !ok {
					reply, want = api.Reply{Err: api.ErrLeg}, s
				}
				a := ask(t, s, r, legs)
				if a.reply != reply || a.used != used || !equal(a.s, told(want, r, reply)) {
					t.Fatalf("%d legs, %v: %+v, not %+v, %d", n, legs, a, reply, used)
				}
				seen[[2]int{int(reply.Err), used}]++
			}
		}
	}
	for used := 4; used <= 7; used++ {
		if seen[[2]int{int(api.ErrLeg), used}] == 0 || seen[[2]int{0, used}] == 0 {
			t.Errorf("%d answers: %v", used, seen)
		}
	}
}

// P16.1, 4: the errors of ops.Reserve. No leg is asked.

func TestReserveOfNoClient(t *testing.T) {
	for _, k := range []int{math.MinInt, -1, 0, 1, 4, 8, 15, 16, 63, 64, math.MaxInt} {
		for n := 1; n <= 4; n++ {
			fails(t, base(), long(k, 10, 5, n), api.ErrUnknown)
			fails(t, base(), long(9, k, 5, n), api.ErrUnknown)
			fails(t, base(), long(k, k, 5, n), api.ErrUnknown)
			fails(t, ops.New(), long(k, 9, 5, n), api.ErrUnknown)
		}
	}
}

// It would go nowhere, come to nothing, or be too much in the other currency.
func TestReserveOfWhatDoesNotGo(t *testing.T) {
	for n := 1; n <= 4; n++ {
		fails(t, base(), long(9, 9, 5, n), api.ErrBad)
		fails(t, base(), long(9, 11, 1, n), api.ErrBad)
		fails(t, base(), long(13, 9, 150, n), api.ErrBad)
		fails(t, base(), long(13, 12, 160, n), api.ErrBad)
		fails(t, base(), long(9, 13, amount, n), api.ErrOverflow)
		fails(t, base(), long(11, 9, amount, n), api.ErrOverflow)
	}
}

func TestReserveOfMoreThanIsFree(t *testing.T) {
	for _, c := range []struct{ a, free int }{{9, 70}, {10, 53}, {11, 50}, {13, 9000}} {
		b := 23 - c.a
		for n := 1; n <= 4; n++ {
			fails(t, base(), long(c.a, b, c.free+1, n), api.ErrInsufficient)
			a := ask(t, base(), long(c.a, b, c.free, n), nil)
			if a.reply != (api.Reply{}) || chart.Free(a.s.Accounts[c.a]) != 0 {
				t.Errorf("%d: %+v", c.a, a)
			}
			sums(t, a.s)
		}
	}
	fails(t, base(), long(12, 9, 1, 2), api.ErrInsufficient)
	fails(t, base(), long(9, 10, amount, 2), api.ErrInsufficient)
}

// P16.1, 4: a settle that has an error, though the reserve had none

// nearlyFull is base where 10 has room for 5 more, and the others have as much less that it comes to 0.
func nearlyFull() api.State {
	return moved(base(), 0, 1000-balance, 2, -1000+65, 10, balance-65)
}

func TestSettleThatGoesOver(t *testing.T) {
	s := nearlyFull()
	sums(t, s)
	if s.Accounts[10].Balance != balance-5 {
		t.Fatal(s.Accounts[10])
	}
	for n := 1; n <= 4; n++ {
		does(t, s, long(9, 10, 5, n), repeat(true, n), api.Reply{}, n, moved(s, 9, -5, 10, 5))
		for _, amount := range []int{6, 30, 70} {
			r := long(9, 10, amount, n)
			over := api.Reply{Err: api.ErrOverflow}
			does(t, s, r, nil, over, 0, s)
			does(t, s, r, repeat(true, n-1), over, n-1, s)
			does(t, s, r, repeat(true, n), over, n, s)
			does(t, s, r, repeat(true, n+9), over, n, s)
			does(t, s, r, append(says("nnn"), repeat(true, n)...), over, n+3, s)
			does(t, s, r, slices.Repeat(says("nnny"), n), over, 4*n, s)
			// Where a leg does not agree, it is not settled at all.
			does(t, s, r, says("nnnny"), api.Reply{Err: api.ErrLeg}, 4, s)
		}
		// More than is free is told ahead of that.
		fails(t, s, long(9, 10, 71, n), api.ErrInsufficient)
	}
}

// A house's account goes over, either way.
func TestSettleThatGoesOverOnTheWay(t *testing.T) {
	high := moved(base(), 1, balance-5, 0, 5-balance+200, 2, -200)
	low := moved(base(), 4, 5-balance, 3, 40, 5, balance-45)
	for _, c := range []struct {
		s    api.State
		last int
	}{{high, 5}, {low, 6}} {
		sums(t, c.s)
		converted := c.last * 9 / 10
		for n := 1; n <= 4; n++ {
			does(t, c.s, long(9, 12, c.last, n), says("ny"), api.Reply{}, 2, moved(c.s, 9, -c.last, 1, c.last, 4, -converted, 12, converted))
			does(t, c.s, long(9, 12, c.last+1, n), says("ny"), api.Reply{Err: api.ErrOverflow}, 2, c.s)
			does(t, c.s, long(9, 12, 70, n), says("nny"), api.Reply{Err: api.ErrOverflow}, 3, c.s)
		}
	}
}

// P16.1, 4: what comes of it

func TestTransfersBetweenCurrencies(t *testing.T) {
	for _, c := range []struct{ a, b, n, converted int }{
		{9, 11, 10, 9}, {9, 12, 70, 63}, {9, 13, 1, 150}, {10, 14, 53, 7950},
		{11, 9, 10, 11}, {11, 13, 50, 8000}, {13, 9, 302, 2}, {13, 11, 9000, 55},
	} {
		x, y := (c.a-9)/2*3+1, (c.b-9)/2*3+1
		s := moved(base(), c.a, -c.n, x, c.n, y, -c.converted, c.b, c.converted)
		for n := 1; n <= 4; n++ {
			does(t, base(), long(c.a, c.b, c.n, n), says("nyy"), api.Reply{}, min(n+1, 3), s)
			does(t, base(), long(c.a, c.b, c.n, n), says("nnnn"), api.Reply{Err: api.ErrLeg}, 4, base())
		}
	}
}

// What was held is let go behind each end, and no saga is left, so that all can be held again.
func TestNothingIsHeldBehindIt(t *testing.T) {
	s := nearlyFull()
	for k, c := range []struct {
		legs []bool
		want api.Errno
	}{{says("nnnn"), api.ErrLeg}, {nil, api.ErrOverflow}, {says("ynnnn"), api.ErrLeg}, {says("nynny"), api.ErrOverflow}, {says("ynnnyn"), api.ErrOverflow}} {
		r := long(9, 10, 70, 2)
		r.Key = 60 + k
		a := ask(t, s, r, c.legs)
		if a.reply != (api.Reply{Err: c.want}) || !slices.Equal(a.s.Accounts, nearlyFull().Accounts) || !slices.Equal(a.s.Sagas, base().Sagas) {
			t.Errorf("%v: %+v", c.legs, a)
		}
		s = a.s
	}
	r := long(9, 12, 70, 2)
	does(t, s, r, nil, api.Reply{}, 0, moved(s, 9, -70, 1, 70, 4, -63, 12, 63))
}

// A transfer that was turned back is told again as it was; by another key it may go.
func TestTurnedBackAndAskedAgain(t *testing.T) {
	r := long(9, 10, 30, 1)
	a := ask(t, base(), r, says("nnnn"))
	refuses(t, a.s, r, api.Reply{Err: api.ErrLeg})
	r.Legs = 2
	refuses(t, a.s, r, api.Reply{Err: api.ErrKey})
	r.Legs, r.Key = 1, 40
	does(t, a.s, r, nil, api.Reply{}, 0, moved(a.s, 9, -30, 10, 30))
}

// The Reply of a transfer has no ID.
func TestLongReplies(t *testing.T) {
	for _, legs := range [][]bool{nil, says("nnnn")} {
		for n := 1; n <= 4; n++ {
			_, reply, _ := bank.Do(base(), long(9, 10, 30, n), legs)
			if reply.ID != 0 {
				t.Error(reply)
			}
		}
	}
}

// The chapter's example.
func TestExample(t *testing.T) {
	s, _ := bank.Run(ops.New(), []api.Request{{Key: 1}, {Key: 2}, {Key: 3, Op: api.OpDeposit, A: 9, Amount: 50}}, nil)
	does(t, s, long(9, 10, 30, 1), says("nnnn"), api.Reply{Err: api.ErrLeg}, 4, s)
	does(t, s, long(9, 10, 30, 1), says("nnnnny"), api.Reply{Err: api.ErrLeg}, 4, s)
}
