package saga_test

import (
	"math"
	"slices"
	"testing"

	"hawala/api"
	"hawala/saga"
)

const retries = 3 // of a leg

// anyInts are of all sizes: a saga that is not right may have any int.
var anyInts = []int{math.MinInt, math.MinInt + 1, -1 << 40, -5, -4, -2, -1, 0, 1, 2, 3, 4, 5, 6, 1 << 40, math.MaxInt - 1, math.MaxInt}

// noPhases are none of the three.
var noPhases = []api.Phase{3, -1, 4, math.MinInt, math.MaxInt}

// anyPhases are the three, and others.
var anyPhases = append([]api.Phase{api.Forward, api.Back, api.Done}, noPhases...)

// anyWhys are errors, none, and such as are no error of the document.
var anyWhys = []api.Errno{0, api.ErrBad, api.ErrInsufficient, api.ErrOverflow, api.ErrLeg, api.ErrPending, api.ErrArgument, 14, -1, math.MinInt, math.MaxInt}

// full has no number that is 0 or stands twice, so that one that goes missing, or to another place, is seen.
func full(legs int) api.Request {
	return api.Request{Key: 77, Op: api.OpTransfer, A: 9, B: 11, Amount: 30, Legs: legs, Until: 555}
}

// on is a saga that goes forward.
func on(legs, leg, tries int) api.Saga {
	return api.Saga{Request: full(legs), Phase: api.Forward, Leg: leg, Tries: tries}
}

// back is one that goes back.
func back(legs, leg, tries int, why api.Errno) api.Saga {
	return api.Saga{Request: full(legs), Phase: api.Back, Leg: leg, Tries: tries, Why: why}
}

// as is a saga with another phase and another reason.
func as(s api.Saga, p api.Phase, why api.Errno) api.Saga {
	s.Phase, s.Why = p, why
	return s
}

func same(t *testing.T, what string, from, got, want api.Saga) {
	t.Helper()
	if got != want {
		t.Errorf("%s of %+v: %+v, not %+v", what, from, got, want)
	}
}

func ready(t *testing.T, s api.Saga, want bool) {
	t.Helper()
	if got := saga.Ready(s); got != want {
		t.Errorf("Ready(%+v) = %t", s, got)
	}
}

// agrees has the next leg agree.
func agrees(t *testing.T, s, want api.Saga) {
	t.Helper()
	same(t, "Leg true", s, saga.Leg(s, true), want)
}

// refuses has the next leg not agree.
func refuses(t *testing.T, s, want api.Saga) {
	t.Helper()
	same(t, "Leg false", s, saga.Leg(s, false), want)
}

// stays asks for a saga that waits for no leg.
func stays(t *testing.T, s api.Saga) {
	t.Helper()
	agrees(t, s, s)
	refuses(t, s, s)
}

func turns(t *testing.T, s api.Saga, why api.Errno, want api.Saga) {
	t.Helper()
	same(t, "Turn "+why.Error(), s, saga.Turn(s, why), want)
}

func most(t *testing.T, s api.Saga, want int) {
	t.Helper()
	if got := saga.Most(s); got != want {
		t.Errorf("Most(%+v) = %d, not %d", s, got, want)
	}
}

func right(t *testing.T, s api.Saga, want bool) {
	t.Helper()
	if got := saga.Right(s); got != want {
		t.Errorf("Right(%+v) = %t", s, got)
	}
}

// P14.1: Begin

func TestBegin(t *testing.T) {
	requests := []api.Request{
		{}, full(0), full(1), full(2), full(3), full(4),
		{Key: 1, Op: api.OpOpen, A: 2}, {Key: 2, Op: api.OpVoid, A: 3}, {Key: 1<<30 - 1, Op: api.OpAuth, A: 9, B: 10, Amount: 1 << 40, Until: 1 << 30},
		// None of these may be.
		full(-1), full(5), full(math.MinInt), full(math.MaxInt),
		{Key: -1}, {Key: 1 << 30}, {Op: -1}, {Op: 8}, {Op: api.OpDeposit, A: 9, Amount: 3, Legs: 2}, {Op: api.OpTransfer, Amount: 0, Legs: 1},
		{Key: -7, Op: -7, A: -7, B: -7, Amount: -7, Legs: -7, Until: -7},
	}
	for _, r := range requests {
		s := saga.Begin(r)
		if s != (api.Saga{Request: r}) || s.Phase != api.Forward {
			t.Errorf("Begin(%+v) = %+v", r, s)
		}
		ready(t, s, r.Legs <= 0)
	}
	if api.Forward != 0 || api.Back != 1 || api.Done != 2 || api.MaxLegs != 4 || api.Retries != retries {
		t.Error(api.Forward, api.Back, api.Done, api.MaxLegs, api.Retries)
	}
}

// P14.1: Ready

func TestReady(t *testing.T) {
	for legs := range 5 {
		for leg := -1; leg <= 6; leg++ {
			ready(t, on(legs, leg, 0), leg >= legs)
		}
	}
	ready(t, on(0, 0, 0), true)
	ready(t, on(0, -1, 0), false)
	ready(t, on(4, 3, 0), false)
	ready(t, on(4, 4, 0), true)
	ready(t, on(4, 5, 0), true)
	ready(t, api.Saga{}, true)
}

// What else stands in the saga does not count.
func TestReadyByLegsAlone(t *testing.T) {
	for _, n := range anyInts {
		for _, why := range anyWhys {
			ready(t, as(on(2, 1, n), api.Forward, why), false)
			ready(t, as(on(2, 2, n), api.Forward, why), true)
			ready(t, as(on(0, 0, n), api.Forward, why), true)
		}
		r := api.Request{Key: n, Op: api.Op(n), A: n, B: n, Amount: n, Until: n}
		ready(t, api.Saga{Request: r}, true)
		r.Legs = 1
		ready(t, api.Saga{Request: r}, false)
		ready(t, api.Saga{Request: r, Leg: 1}, true)
	}
}

func TestReadyOfFarNumbers(t *testing.T) {
	for _, legs := range anyInts {
		for _, leg := range anyInts {
			ready(t, on(legs, leg, 0), leg >= legs)
		}
	}
}

func TestReadyOfEachPhase(t *testing.T) {
	for _, p := range anyPhases {
		for legs := range 5 {
			ready(t, as(on(legs, legs-1, 0), p, 0), false)
			for _, why := range anyWhys {
				ready(t, as(on(legs, legs, 0), p, why), p == api.Forward)
				ready(t, as(on(legs, legs+1, 0), p, why), p == api.Forward)
			}
		}
	}
}

// P14.1: Leg

func TestLegAgrees(t *testing.T) {
	for legs := 1; legs <= 4; legs++ {
		for leg := range legs {
			agrees(t, on(legs, leg, 0), on(legs, leg+1, 0))
		}
	}
	agrees(t, on(1, 0, 0), on(1, 1, 0))
	agrees(t, on(0, -1, 0), on(0, 0, 0))
	agrees(t, on(5, 4, 0), on(5, 5, 0))
	agrees(t, on(math.MaxInt, math.MaxInt-1, 0), on(math.MaxInt, math.MaxInt, 0))
	agrees(t, on(0, math.MinInt, 0), on(0, math.MinInt+1, 0))
}

// Behind an agreement the next leg has all its tries.
func TestLegAgreesBehindRefusals(t *testing.T) {
	for legs := 1; legs <= 4; legs++ {
		for leg := range legs {
			for _, tries := range anyInts {
				agrees(t, on(legs, leg, tries), on(legs, leg+1, 0))
			}
		}
	}
	s := on(2, 0, 0)
	for range 2 {
		for range retries {
			s = saga.Leg(s, false)
		}
		s = saga.Leg(s, true)
		if s.Tries != 0 || s.Phase != api.Forward {
			t.Error(s)
		}
	}
	ready(t, s, true)
	same(t, "three refusals of each leg", on(2, 0, 0), s, on(2, 2, 0))
}

func TestLegRefuses(t *testing.T) {
	for legs := 1; legs <= 4; legs++ {
		for leg := range legs {
			refuses(t, on(legs, leg, 0), on(legs, leg, 1))
			refuses(t, on(legs, leg, 1), on(legs, leg, 2))
			refuses(t, on(legs, leg, 2), on(legs, leg, 3))
			refuses(t, on(legs, leg, 3), back(legs, leg, 4, api.ErrLeg))
		}
	}
}

// Tries that no saga comes to go on from where they are; the greatest wraps around.
func TestLegRefusesFromAnyTries(t *testing.T) {
	for _, tries := range []int{3, 4, 5, 9, 1 << 40, math.MaxInt - 1} {
		refuses(t, on(3, 1, tries), back(3, 1, tries+1, api.ErrLeg))
		refuses(t, on(1, 0, tries), back(1, 0, tries+1, api.ErrLeg))
	}
	for _, tries := range []int{-1, -2, -7, math.MinInt} {
		refuses(t, on(3, 1, tries), on(3, 1, tries+1))
	}
	refuses(t, on(3, 1, math.MaxInt), on(3, 1, math.MinInt))
}

// A reason that stands in a saga that goes forward stays, until there is one.
func TestLegWithAWhy(t *testing.T) {
	for _, why := range anyWhys {
		agrees(t, as(on(2, 1, 2), api.Forward, why), as(on(2, 2, 0), api.Forward, why))
		refuses(t, as(on(2, 1, 2), api.Forward, why), as(on(2, 1, 3), api.Forward, why))
		refuses(t, as(on(2, 1, 3), api.Forward, why), back(2, 1, 4, api.ErrLeg))
	}
}

func TestLegOfOneReady(t *testing.T) {
	for legs := range 5 {
		for _, tries := range anyInts {
			for _, why := range anyWhys {
				stays(t, as(on(legs, legs, tries), api.Forward, why))
				stays(t, as(on(legs, legs+1, tries), api.Forward, why))
			}
		}
		stays(t, on(legs, math.MaxInt, 0))
	}
	stays(t, api.Saga{})
	stays(t, on(-1, -1, 3))
	stays(t, on(-1, 0, 3))
	stays(t, on(math.MinInt, math.MinInt, 3))
}

func TestLegOfOneNotForward(t *testing.T) {
	for _, p := range anyPhases[1:] {
		for legs := range 5 {
			for leg := -1; leg <= legs+1; leg++ {
				for _, tries := range []int{-1, 0, 2, 3, 4, math.MaxInt} {
					stays(t, as(on(legs, leg, tries), p, 0))
					stays(t, as(on(legs, leg, tries), p, api.ErrLeg))
					stays(t, as(on(legs, leg, tries), p, api.ErrOverflow))
				}
			}
		}
	}
}

// P14.1: Turn

func TestTurn(t *testing.T) {
	for _, why := range anyWhys {
		for legs := range 5 {
			for leg := -1; leg <= legs+1; leg++ {
				for _, tries := range []int{-1, 0, 3, 4, math.MaxInt} {
					turns(t, on(legs, leg, tries), why, back(legs, leg, tries, why))
				}
			}
		}
		// What stands as the reason of one that goes forward is replaced, also by 0.
		for _, old := range anyWhys {
			turns(t, as(on(2, 1, 2), api.Forward, old), why, back(2, 1, 2, why))
		}
		turns(t, api.Saga{}, why, api.Saga{Phase: api.Back, Why: why})
	}
}

func TestTurnOfOneNotForward(t *testing.T) {
	for _, p := range anyPhases[1:] {
		for _, old := range anyWhys {
			for _, why := range anyWhys {
				for _, s := range []api.Saga{on(0, 0, 0), on(2, 1, 2), on(2, 2, 0), on(4, 3, 4), on(-1, 5, -1), {}} {
					s = as(s, p, old)
					turns(t, s, why, s)
				}
			}
		}
	}
}

// P14.1: End

func TestEnd(t *testing.T) {
	for _, p := range anyPhases {
		for _, why := range anyWhys {
			for _, s := range []api.Saga{on(0, 0, 0), on(2, 1, 2), on(2, 2, 0), on(4, 3, 4), on(-1, 5, -1), on(math.MinInt, math.MaxInt, math.MinInt), {}} {
				s = as(s, p, why)
				same(t, "End", s, saga.End(s), as(s, api.Done, why))
			}
		}
	}
}

// P14.2: Most

func TestMost(t *testing.T) {
	for _, c := range []struct{ legs, leg, tries, want int }{
		{0, 0, 0, 2}, {1, 0, 0, 6}, {2, 0, 0, 10}, {3, 0, 0, 14}, {4, 0, 0, 18},
		{4, 1, 0, 14}, {4, 2, 0, 10}, {4, 3, 0, 6}, {4, 4, 0, 2},
		{1, 0, 1, 5}, {1, 0, 2, 4}, {1, 0, 3, 3}, {1, 0, 4, 2},
		{4, 0, 1, 17}, {4, 0, 2, 16}, {4, 0, 3, 15}, {4, 0, 4, 14}, {4, 3, 3, 3},
		{0, 0, 1, 1}, {0, 0, 2, 0}, {0, 0, 3, -1}, {0, 0, 4, -2}, {2, 2, 3, -1},
		{2, 3, 0, 2}, {2, 4, 0, 2}, {2, 9, 1, 1}, {0, math.MaxInt, 0, 2}, {-1, 0, 0, 2}, {-5, 4, 3, -1},
		{5, 0, 0, 22}, {100, 0, 0, 402}, {0, -1, 0, 6}, {4, -2, 1, 25}, {1, 0, -1, 7}, {1, 0, 9, -3},
	} {
		for _, why := range anyWhys {
			most(t, as(on(c.legs, c.leg, c.tries), api.Forward, why), c.want)
		}
	}
	most(t, api.Saga{}, 2)
}

// W5: the plain sums count, even where they wrap around.
func TestMostWrapsAround(t *testing.T) {
	most(t, on(math.MaxInt, 0, 0), -2)
	most(t, on(math.MaxInt, -1, 0), 2)
	most(t, on(math.MinInt, 1, 0), -2)
	most(t, on(math.MinInt, 0, 0), 2)
	most(t, on(math.MinInt, math.MinInt, 0), 2)
	most(t, on(1<<62, 0, 0), 2)
	most(t, on(1<<61, 0, 0), math.MinInt+2)
	most(t, on(0, 0, math.MinInt), math.MinInt+2)
	most(t, on(0, 0, math.MaxInt), math.MinInt+3)
	most(t, on(0, 0, math.MinInt+2), math.MinInt)
	most(t, on(0, 0, math.MinInt+3), math.MaxInt)
}

func TestMostOfOneNotForward(t *testing.T) {
	for _, p := range anyPhases[1:] {
		want := 0
		if p == api.Back {
			want = 1
		}
		for _, legs := range anyInts {
			for _, leg := range anyInts {
				for _, tries := range []int{0, 1, 4, -1, math.MaxInt} {
					most(t, as(on(legs, leg, tries), p, 0), want)
					most(t, as(on(legs, leg, tries), p, api.ErrLeg), want)
				}
			}
		}
	}
}

// longest is the greatest number of steps there is, by going all ways: each leg answers either way, the last step ends the saga or fails, and one that goes back has one step more.
func longest(s api.Saga) int {
	if s.Phase == api.Back {
		return 1
	}
	if saga.Ready(s) {
		return 1 + longest(saga.Turn(s, api.ErrOverflow))
	}
	return 1 + max(longest(saga.Leg(s, true)), longest(saga.Leg(s, false)))
}

// The maximum is that of all ways, and no way is longer.
func TestMostByAllWays(t *testing.T) {
	for legs := range 5 {
		for leg := range legs + 1 {
			most(t, on(legs, leg, 0), longest(on(legs, leg, 0)))
			for tries := 1; tries <= retries && leg < legs; tries++ {
				most(t, on(legs, leg, tries), longest(on(legs, leg, tries)))
			}
		}
	}
}

// P14.2: Right

func TestRightLegs(t *testing.T) {
	for _, legs := range anyInts {
		valid := 0 <= legs && legs <= 4
		right(t, on(legs, 0, 0), valid)
		right(t, on(legs, legs, 0), valid)
		right(t, back(legs, 0, 0, api.ErrLeg), valid)
		right(t, back(legs, legs, 4, api.ErrLeg), valid)
	}
}

func TestRightLeg(t *testing.T) {
	for legs := range 5 {
		for _, leg := range append([]int{legs - 1, legs, legs + 1, legs + 2}, anyInts...) {
			valid := 0 <= leg && leg <= legs
			right(t, on(legs, leg, 0), valid)
			right(t, back(legs, leg, 0, api.ErrLeg), valid)
			right(t, back(legs, leg, 4, api.ErrOverflow), valid)
		}
	}
}

func TestRightTries(t *testing.T) {
	for legs := range 5 {
		for _, tries := range anyInts {
			for leg := range legs {
				right(t, on(legs, leg, tries), 0 <= tries && tries <= 3)
				right(t, back(legs, leg, tries, api.ErrLeg), 0 <= tries && tries <= 4)
			}
			right(t, on(legs, legs, tries), tries == 0)
			right(t, back(legs, legs, tries, api.ErrLeg), 0 <= tries && tries <= 4)
		}
	}
}

func TestRightWhy(t *testing.T) {
	for _, why := range anyWhys {
		for _, s := range []api.Saga{on(0, 0, 0), on(1, 0, 3), on(4, 2, 1), on(4, 4, 0)} {
			right(t, as(s, api.Forward, why), why == 0)
			right(t, as(s, api.Back, why), why != 0)
		}
	}
	right(t, api.Saga{}, true)
	right(t, api.Saga{Phase: api.Back}, false)
}

func TestRightPhase(t *testing.T) {
	for _, p := range anyPhases[2:] {
		for _, why := range anyWhys {
			for _, s := range []api.Saga{on(0, 0, 0), on(1, 0, 3), on(1, 0, 4), on(4, 2, 1), on(4, 4, 0), {}} {
				right(t, as(s, p, why), false)
			}
		}
	}
	right(t, saga.End(on(2, 2, 0)), false)
	right(t, saga.End(back(2, 1, 4, api.ErrLeg)), false)
}

// Of the request only the Legs are asked.
func TestRightOfRequestsThatMayNotBe(t *testing.T) {
	for _, n := range anyInts {
		r := api.Request{Key: n, Op: api.Op(n), A: n, B: n, Amount: n, Legs: 2, Until: n}
		right(t, saga.Begin(r), true)
		right(t, api.Saga{Request: r, Phase: api.Back, Leg: 2, Tries: 4, Why: 9}, true)
		right(t, api.Saga{Request: r, Leg: 3}, false)
	}
}

// rights are all valid sagas of one request, for each number of Legs, with no Why but 0 and 1, by listing them.
func rights() map[api.Saga]int {
	list := map[api.Saga]int{}
	for legs := range 5 {
		for leg := range legs + 1 {
			list[on(legs, leg, 0)]++
			for tries := range 5 {
				list[back(legs, leg, tries, 1)]++
				if leg < legs && tries < 4 {
					list[on(legs, leg, tries)] = 1
				}
			}
		}
	}
	return list
}

func TestRightByList(t *testing.T) {
	list, found := rights(), 0
	for legs := -2; legs <= 7; legs++ {
		for leg := -2; leg <= 7; leg++ {
			for tries := -2; tries <= 7; tries++ {
				for p := api.Phase(-2); p <= 4; p++ {
					for why := range api.Errno(2) {
						s := as(on(legs, leg, tries), p, why)
						right(t, s, list[s] == 1)
						found += list[s]
					}
				}
			}
		}
	}
	// 15 places of Leg: 5 of them with no leg missing. Forward: 5 and 10 times 4; back: 15 times 5.
	if len(list) != 120 || found != 120 {
		t.Error(len(list), found)
	}
}

// Lists of answers, against a plain second reading of the chapter.

// byReading takes the answers leg by leg: refusals, and then, if they are not too many, one agreement.
func byReading(legs int, answers []bool) api.Saga {
	for leg := range legs {
		refused := slices.Index(append(answers[:len(answers):len(answers)], true), true)
		if refused > retries {
			return back(legs, leg, retries+1, api.ErrLeg)
		}
		if refused == len(answers) {
			return on(legs, leg, refused)
		}
		answers = answers[refused+1:]
	}
	return on(legs, legs, 0)
}

// all gives all lists of n answers.
func all(n int, give func([]bool)) {
	answers := make([]bool, n)
	for k := range 1 << n {
		for at := range answers {
			answers[at] = k>>at&1 == 1
		}
		give(answers)
	}
}

func TestAllAnswers(t *testing.T) {
	for legs := range 5 {
		for n := range 11 {
			all(n, func(answers []bool) {
				s := saga.Begin(full(legs))
				for at, ok := range answers {
					after := saga.Leg(s, ok)
					if want := byReading(legs, answers[:at+1]); after != want {
						t.Fatalf("of %d legs, behind %v: %+v, not %+v", legs, answers[:at+1], after, want)
					}
					wears(t, s, after)
					s = after
				}
			})
		}
	}
}

// wears asks what holds from an answer to the next: T5, each one that counts brings the end nearer.
func wears(t *testing.T, s, after api.Saga) {
	t.Helper()
	right(t, after, true)
	waits := s.Phase == api.Forward && !saga.Ready(s)
	if waits == (after == s) || waits && saga.Most(after) >= saga.Most(s) {
		t.Fatalf("%+v behind %+v", after, s)
	}
}

// T5: with the step that ends it, or fails to, a saga has no more steps than Most tells at first.
func TestAllAnswersWithinMost(t *testing.T) {
	for legs := range 5 {
		bound, greatest := saga.Most(saga.Begin(full(legs))), 0
		all(bound, func(answers []bool) {
			s, steps := saga.Begin(full(legs)), 0
			for s.Phase == api.Forward && !saga.Ready(s) {
				s = saga.Leg(s, answers[steps])
				steps++
			}
			if saga.Ready(s) {
				s = saga.Turn(s, api.ErrOverflow)
				steps++
			}
			if s.Phase != api.Back {
				t.Fatal(s)
			}
			s, steps = saga.End(s), steps+1
			most(t, s, 0)
			greatest = max(greatest, steps)
		})
		if greatest != bound {
			t.Errorf("of %d legs: %d steps, not %d", legs, greatest, bound)
		}
	}
}

// The chapter's example.
func TestExample(t *testing.T) {
	for legs := 1; legs <= 4; legs++ {
		s := saga.Begin(full(legs))
		for range 4 {
			if s.Phase != api.Forward || s.Why != 0 {
				t.Error(s)
			}
			s = saga.Leg(s, false)
		}
		same(t, "four answers false", saga.Begin(full(legs)), s, back(legs, 0, 4, api.ErrLeg))
	}
}

// Drawn sagas, against a plain second reading of the chapter.

func legByReading(s api.Saga, ok bool) api.Saga {
	switch {
	case s.Phase != 0, s.Request.Legs <= s.Leg:
	case ok:
		s = api.Saga{Request: s.Request, Leg: s.Leg + 1, Why: s.Why}
	case s.Tries+1 > 3:
		s = api.Saga{Request: s.Request, Phase: 1, Leg: s.Leg, Tries: s.Tries + 1, Why: 9}
	default:
		s.Tries++
	}
	return s
}

func turnByReading(s api.Saga, why api.Errno) api.Saga {
	if s.Phase != 0 {
		return s
	}
	return api.Saga{Request: s.Request, Phase: 1, Leg: s.Leg, Tries: s.Tries, Why: why}
}

func mostByReading(s api.Saga) int {
	n := 2 - s.Tries
	if missing := s.Request.Legs - s.Leg; missing > 0 {
		n += missing + missing + missing + missing
	}
	if s.Phase == 0 {
		return n
	}
	if s.Phase == 1 {
		return 1
	}
	return 0
}

// rightByReading tells it by what may not be.
func rightByReading(s api.Saga) bool {
	switch {
	case s.Request.Legs < 0, s.Request.Legs > 4, s.Leg < 0, s.Leg > s.Request.Legs, s.Tries < 0, s.Tries > 4:
		return false
	case s.Phase == 0:
		return s.Why == 0 && s.Tries != 4 && (s.Leg != s.Request.Legs || s.Tries == 0)
	}
	return s.Phase == 1 && s.Why != 0
}

// agree holds all calls against the second reading.
func agree(t *testing.T, s api.Saga, why api.Errno) {
	t.Helper()
	ready(t, s, s.Phase == 0 && s.Leg >= s.Request.Legs)
	agrees(t, s, legByReading(s, true))
	refuses(t, s, legByReading(s, false))
	turns(t, s, why, turnByReading(s, why))
	same(t, "End", s, saga.End(s), as(s, 2, s.Why))
	most(t, s, mostByReading(s))
	right(t, s, rightByReading(s))
}

type draw uint64

func (d *draw) below(n int) int {
	*d = *d*6364136223846793005 + 1442695040888963407
	return int(uint64(*d)>>33) % n
}

func (d *draw) anyInt() int { return anyInts[d.below(len(anyInts))] }

// saga is mostly a right one, in which now and then a number is out of its place.
func (d *draw) saga() api.Saga {
	legs := d.below(5)
	s := api.Saga{Request: full(legs), Phase: anyPhases[d.below(3)], Leg: d.below(legs + 1), Tries: d.below(5), Why: api.Errno(d.below(3) * d.below(7))}
	s.Request.Key = d.below(1 << 30)
	for range d.below(3) * d.below(2) {
		switch d.below(6) {
		case 0:
			s.Request.Legs = d.anyInt()
		case 1:
			s.Leg = d.anyInt()
		case 2:
			s.Tries = d.anyInt()
		case 3:
			s.Why = anyWhys[d.below(len(anyWhys))]
		case 4:
			s.Phase = noPhases[d.below(len(noPhases))]
		case 5:
			s.Request.Amount, s.Request.A, s.Request.Op = d.anyInt(), d.anyInt(), api.Op(d.anyInt())
		}
	}
	return s
}

func TestDrawn(t *testing.T) {
	d, valid, waiting := draw(41), 0, 0
	for range 50000 {
		s := d.saga()
		agree(t, s, anyWhys[d.below(len(anyWhys))])
		if saga.Right(s) {
			valid++
		}
		if saga.Leg(s, true) != s {
			waiting++
		}
	}
	if valid < 10000 || valid > 40000 || waiting < 5000 {
		t.Error(valid, waiting)
	}
}

// A valid saga stays one by each call that an engine makes of it, but for its end.
func TestRightStaysRight(t *testing.T) {
	for s := range rights() {
		right(t, saga.Leg(s, true), true)
		right(t, saga.Leg(s, false), true)
		right(t, saga.Turn(s, api.ErrOverflow), true)
		right(t, saga.End(s), false)
	}
}

// W2: what was asked ahead does not count.
func TestAskedAgain(t *testing.T) {
	d := draw(42)
	for range 200 {
		agree(t, d.saga(), api.ErrBad)
		refuses(t, on(2, 1, 3), back(2, 1, 4, api.ErrLeg))
		agrees(t, on(2, 1, 3), on(2, 2, 0))
		turns(t, on(2, 1, 3), api.ErrState, back(2, 1, 3, api.ErrState))
		most(t, on(2, 1, 3), 3)
		right(t, on(2, 1, 3), true)
	}
}

// W6: no call changes what it is given.
func TestGivenUnchanged(t *testing.T) {
	sagas := []api.Saga{on(2, 0, 0), on(2, 1, 3), on(2, 2, 0), back(2, 1, 4, api.ErrLeg), as(on(2, 1, 1), api.Done, 0), as(on(2, 1, 1), 3, 5), on(-1, 5, 9), {}}
	whole := slices.Clone(sagas)
	for at := range sagas {
		given := &sagas[at]
		saga.Begin(given.Request)
		saga.Ready(*given)
		saga.Leg(*given, true)
		saga.Leg(*given, false)
		saga.Turn(*given, api.ErrBad)
		saga.End(*given)
		saga.Most(*given)
		saga.Right(*given)
		if !slices.Equal(sagas, whole) {
			t.Fatalf("%+v, not %+v", sagas, whole)
		}
	}
}
