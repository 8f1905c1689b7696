package engine_test

import (
	"math"
	"slices"
	"testing"

	"hawala/api"
	"hawala/engine"
	"hawala/ops"
	"hawala/saga"
)

// changed is a state with another saga at an index.
func changed(s api.State, k int, g api.Saga) api.State {
	s = clone(s)
	s.Sagas[k] = g
	return s
}

// goesOn is a step behind which a saga is as it is told here, and nothing else is changed.
func goesOn(t *testing.T, s api.State, k int, ok bool, want api.Saga) api.State {
	t.Helper()
	return does(t, s, step(s.Sagas[k].Request.Key, ok), failure(api.ErrPending), changed(s, k, want))
}

// ended is a state without the saga at an index, of which the key has a reply.
func ended(s api.State, k int, why api.Errno) api.State {
	r := s.Sagas[k].Request
	s = clone(s)
	s.Sagas = append(s.Sagas[:k], s.Sagas[k+1:]...)
	for j, known := range s.Known {
		if known.Request == r {
			s.Known[j] = api.Known{Request: r, Reply: failure(why), Told: true}
		}
	}
	return s
}

// ends is a step that ends a saga, whatever its leg says: behind it its request is told again, and it has no more steps.
func ends(t *testing.T, s api.State, k int, why api.Errno, want api.State) api.State {
	t.Helper()
	r := s.Sagas[k].Request
	want = ended(want, k, why)
	for _, ok := range []bool{true, false} {
		after := does(t, s, step(r.Key, ok), failure(why), want)
		again(t, after, r, failure(why))
		stays(t, after, step(r.Key, ok), failure(api.ErrUnknown))
	}
	return want
}

// P17.2, Step: no saga

func TestStepOfNoSaga(t *testing.T) {
	for _, s := range states() {
		for _, ok := range []bool{true, false} {
			// Of none, of those that were told, and of those that are not known at all.
			for _, key := range append([]int{4, 6, 3, 9, 90, 94, 1255, 1999}, anyInts...) {
				if engine.Find(s, key) < 0 {
					stays(t, s, step(key, ok), failure(api.ErrUnknown))
				}
			}
		}
	}
}

// What is not Long, or came to an error, has no saga.
func TestStepOfWhatIsNotLong(t *testing.T) {
	for _, r := range append(asks(), transfer(9, 10, 71), void(7), long(9, 10, 71, 2), long(9, 9, 5, 1), long(8, 9, 5, 1)) {
		s := ask(t, base(), submit(r)).s
		stays(t, s, step(r.Key, true), failure(api.ErrUnknown))
		stays(t, s, step(r.Key, false), failure(api.ErrUnknown))
	}
	for _, r := range notValid() {
		stays(t, base(), step(r.Key, true), failure(api.ErrUnknown))
	}
}

// P17.2, Step: an answer of a leg

// forward is base with one more saga, the last one: a transfer of 30 from 9 to 10.
func forward(legs, leg, tries int) (api.State, api.Saga) {
	g := api.Saga{Request: long(9, 10, 30, legs), Leg: leg, Tries: tries}
	return goes(base(), g), g
}

func TestAnswersOfALeg(t *testing.T) {
	for legs := 1; legs <= 4; legs++ {
		for leg := range legs {
			for tries := range 4 {
				s, g := forward(legs, leg, tries)
				agreed, refused := g, g
				agreed.Leg, agreed.Tries = leg+1, 0
				refused.Tries = tries + 1
				if tries == 3 {
					refused.Phase, refused.Why = api.Back, api.ErrLeg
				}
				goesOn(t, s, 3, true, agreed)
				goesOn(t, s, 3, false, refused)
			}
		}
	}
	if api.Retries != 3 {
		t.Error(api.Retries)
	}
}

// The first saga of base waits for its last leg, which did not agree twice.
func TestStepsOfTheFirstSaga(t *testing.T) {
	g := base().Sagas[0]
	g.Tries = 3
	s := goesOn(t, base(), 0, false, g)
	back := g
	back.Phase, back.Tries, back.Why = api.Back, 4, api.ErrLeg
	ends(t, goesOn(t, s, 0, false, back), 0, api.ErrLeg, held(changed(s, 0, back), 10, -7))
	g.Leg, g.Tries = 2, 0
	s = goesOn(t, s, 0, true, g)
	ends(t, s, 0, 0, held(moved(s, 10, -7, 9, 7), 10, -7))
}

// says is what legs answer, as steps of one key: y agrees, n does not.
func says(key int, text string) []api.Event {
	es := []api.Event{}
	for _, c := range text {
		es = append(es, step(key, c == 'y'))
	}
	return es
}

// goesThrough submits a transfer of 30 from 9 to 10 to base, and has its steps: the last one ends it, all before it do not.
func goesThrough(t *testing.T, legs int, text string, why api.Errno) {
	t.Helper()
	r := long(9, 10, 30, legs)
	s := ask(t, base(), submit(r)).s
	for k, e := range says(39, text) {
		a := ask(t, s, e)
		want := failure(api.ErrPending)
		if k == len(text)-1 {
			want = failure(why)
		}
		if a.reply != want {
			t.Errorf("%d legs, %s: %+v at %d, not %+v", legs, text, a.reply, k, want)
		}
		s = a.s
	}
	want := base()
	if why == 0 {
		want = moved(want, 9, -30, 10, 30)
	}
	if !equal(s, told(want, r, failure(why))) {
		t.Errorf("%d legs, %s: %+v", legs, text, s)
	}
}

// Behind the answers there is one step more, of which the answer does not matter.
func TestAllSteps(t *testing.T) {
	for legs := 1; legs <= 4; legs++ {
		yes := "yyyy"[:legs]
		for _, last := range []string{"y", "n"} {
			goesThrough(t, legs, yes+last, 0)
			goesThrough(t, legs, "n"+yes+last, 0)
			goesThrough(t, legs, "nnn"+yes+last, 0)
			goesThrough(t, legs, yes[1:]+"nnny"+last, 0)
			goesThrough(t, legs, "nnnn"+last, api.ErrLeg)
			goesThrough(t, legs, yes[1:]+"nnnn"+last, api.ErrLeg)
		}
	}
	goesThrough(t, 2, "nnnynnnyy", 0)
	goesThrough(t, 2, "nnnynnnnn", api.ErrLeg)
	goesThrough(t, 3, "nnnynnnynnnyn", 0)
	goesThrough(t, 4, "nnnynnnynnnynnnyy", 0)
	goesThrough(t, 4, "nnnynnnynnnynnnny", api.ErrLeg)
	goesThrough(t, 4, "nynynynyn", 0)
}

// P17.2, Step: a saga that is ready

func TestSettle(t *testing.T) {
	s := base()
	ends(t, s, 1, 0, held(moved(s, 11, -4, 12, 4), 11, -4))
	for legs := 1; legs <= 4; legs++ {
		for _, c := range []struct{ a, b, n, converted int }{
			{9, 10, 70, 70}, {9, 11, 10, 9}, {9, 12, 70, 63}, {9, 13, 1, 150}, {10, 14, 53, 7950},
			{11, 9, 10, 11}, {11, 13, 46, 7360}, {13, 9, 302, 2}, {13, 11, 8850, 54},
		} {
			s := goes(base(), api.Saga{Request: long(c.a, c.b, c.n, legs), Leg: legs})
			want := moved(s, c.a, -c.n, c.b, c.converted)
			if x, y := (c.a-9)/2*3+1, (c.b-9)/2*3+1; x != y {
				want = moved(want, x, c.n, y, -c.converted)
			}
			sums(t, ends(t, s, 3, 0, held(want, c.a, -c.n)))
		}
	}
}

// P17.2, Step: a settle that has an error, though the reserve had none

// nearlyFull is base where 10 has room for 5 more, and the others have as much less that it comes to 0.
func nearlyFull() api.State {
	return moved(base(), 0, 1000-balance, 2, -1000+65, 10, balance-65)
}

func TestSettleThatGoesOver(t *testing.T) {
	s := nearlyFull()
	sums(t, s)
	if s.Accounts[10].Balance != balance-5 {
		t.Fatal(s.Accounts[10])
	}
	for legs := 1; legs <= 4; legs++ {
		for _, n := range []int{6, 30, 70} {
			g := api.Saga{Request: long(9, 10, n, legs), Leg: legs}
			s := goes(s, g)
			turned := g
			turned.Phase, turned.Why = api.Back, api.ErrOverflow
			goesOn(t, s, 3, false, turned)
			back := goesOn(t, s, 3, true, turned)
			refuses(t, back, g.Request, failure(api.ErrPending))
			sums(t, ends(t, back, 3, api.ErrOverflow, held(back, 9, -n)))
		}
		g := api.Saga{Request: long(9, 10, 5, legs), Leg: legs}
		s := goes(s, g)
		ends(t, s, 3, 0, held(moved(s, 9, -5, 10, 5), 9, -5))
	}
}

// Though there is room by then, what turned back goes back.
func TestWhatTurnedBackStaysSo(t *testing.T) {
	g := api.Saga{Request: long(9, 10, 6, 1), Leg: 1}
	s, reply := engine.Do(goes(nearlyFull(), g), step(39, true))
	s, reply2 := engine.Do(s, submit(transfer(10, 9, 20)))
	if reply != failure(api.ErrPending) || reply2 != (api.Reply{}) {
		t.Error(reply, reply2)
	}
	ends(t, s, 3, api.ErrOverflow, held(s, 9, -6))
}

// A house's account goes over, either way.
func TestSettleThatGoesOverOnTheWay(t *testing.T) {
	high := moved(base(), 1, balance-5, 0, 5-balance+200, 2, -200)
	low := moved(base(), 4, 5-balance, 3, 40, 5, balance-45)
	for _, c := range []struct {
		s    api.State
		last int
	}{{high, 5}, {low, 6}} {
		sums(t, c.s)
		converted := c.last * 9 / 10
		s := goes(c.s, api.Saga{Request: long(9, 12, c.last, 2), Leg: 2})
		ends(t, s, 3, 0, held(moved(s, 9, -c.last, 1, c.last, 4, -converted, 12, converted), 9, -c.last))
		g := api.Saga{Request: long(9, 12, c.last+1, 2), Leg: 2}
		s = goes(c.s, g)
		g.Phase, g.Why = api.Back, api.ErrOverflow
		s = goesOn(t, s, 3, true, g)
		ends(t, s, 3, api.ErrOverflow, held(s, 9, -c.last-1))
	}
}

// P17.2, Step: a saga that goes back

// It ends with what it says, whatever that is.
func TestUndo(t *testing.T) {
	ends(t, base(), 2, api.ErrLeg, held(base(), 13, -150))
	for why := api.Errno(1); why <= 13; why++ {
		for legs := 1; legs <= 4; legs++ {
			for leg := range legs + 1 {
				g := api.Saga{Request: long(9, 10, 30, legs), Phase: api.Back, Leg: leg, Tries: leg, Why: why}
				s := goes(base(), g)
				ends(t, s, 3, why, held(s, 9, -30))
			}
		}
	}
}

// What was let go can be held again.
func TestUndoneAndAskedAgain(t *testing.T) {
	s := base()
	for k := range 5 {
		r := long(9, 10, 70, 1)
		r.Key = 60 + k
		s = begins(t, s, r)
		after, replies := engine.Run(s, says(r.Key, "nnnny"))
		if want := []api.Errno{10, 10, 10, 10, 9}; !slices.EqualFunc(replies, want, func(r api.Reply, e api.Errno) bool { return r == failure(e) }) {
			t.Error(replies)
		}
		if !slices.Equal(after.Accounts, base().Accounts) || !slices.Equal(after.Sagas, base().Sagas) {
			t.Errorf("%+v", after)
		}
		s = after
	}
}

// A saga that ends is removed, wherever it stands, and the others stay in their order.
func TestTheOthersStayInOrder(t *testing.T) {
	s := base()
	for n := range 13 {
		legs := 1 + n%4
		g := api.Saga{Request: long(9, 12, 2+n%3, legs), Leg: legs}
		g.Request.Key = 60 + n
		if n%2 == 0 {
			g.Leg, g.Phase, g.Why = 0, api.Back, api.Errno(1+n)
		}
		s = goes(s, g)
	}
	keys := engine.Waits(s)
	if len(keys) != 16 {
		t.Fatal(keys)
	}
	for k, key := range keys[1:] {
		a := ask(t, s, step(key, false))
		if want := slices.Delete(slices.Clone(keys), k+1, k+2); !slices.Equal(engine.Waits(a.s), want) {
			t.Errorf("%d: %v, not %v", key, engine.Waits(a.s), want)
		}
		for j, g := range a.s.Sagas {
			if g != s.Sagas[j] && g != s.Sagas[j+1] {
				t.Errorf("%d: %+v", key, g)
			}
		}
		if engine.Find(a.s, key) != -1 || len(a.s.Known) != len(s.Known) {
			t.Errorf("%d: %+v", key, a.s)
		}
	}
	// From the last one to the first one, and the other way round.
	for _, order := range [][]int{keys[1:], backwards(keys[1:])} {
		left, s := slices.Clone(keys), s
		for _, key := range order {
			s = ask(t, s, step(key, true)).s
			left = slices.DeleteFunc(left, func(k int) bool { return k == key })
			if !slices.Equal(engine.Waits(s), left) {
				t.Errorf("%v, not %v", engine.Waits(s), left)
			}
		}
		if !slices.Equal(s.Sagas, base().Sagas[:1]) {
			t.Errorf("%+v", s.Sagas)
		}
	}
}

func backwards(ns []int) []int {
	ns = slices.Clone(ns)
	slices.Reverse(ns)
	return ns
}

// Only the saga of the key has its step.
func TestTheOthersWait(t *testing.T) {
	s := crowd(base(), 16)
	for k, g := range s.Sagas {
		for _, ok := range []bool{true, false} {
			a := ask(t, s, step(g.Request.Key, ok))
			rest := slices.Delete(slices.Clone(s.Sagas), k, k+1)
			if g.Phase == api.Forward && !saga.Ready(g) {
				rest = slices.Insert(rest, k, a.s.Sagas[k])
			}
			if !slices.Equal(a.s.Sagas, rest) {
				t.Errorf("%+v: %+v", g, a.s.Sagas)
			}
			for j, known := range a.s.Known {
				if known.Request != g.Request && known != s.Known[j] {
					t.Errorf("%+v: %+v", g, known)
				}
			}
		}
	}
}

// Each of them is told what it came to, wherever its key stands.
func TestWhatIsToldOfEach(t *testing.T) {
	s := many(crowd(base(), 16), 256)
	want := map[int]api.Errno{5: api.ErrLeg, 7: 0, 8: api.ErrLeg}
	for k, g := range s.Sagas[3:] {
		g.Phase, g.Why = api.Back, api.Errno(1+k)
		s.Sagas[k+3], want[g.Request.Key] = g, g.Why
	}
	for len(s.Sagas) > 0 {
		s, _ = engine.Do(s, step(s.Sagas[len(s.Sagas)/2].Request.Key, false))
	}
	for _, known := range s.Known {
		why, ok := want[known.Request.Key]
		if !known.Told || ok && known.Reply != failure(why) {
			t.Errorf("%+v", known)
		}
		refuses(t, s, known.Request, known.Reply)
	}
}

// Sagas that Check allows though no request would be one: nothing panics, and each ends.
func TestSagasOfNoClient(t *testing.T) {
	for _, a := range []int{-1, 15, 64, math.MinInt, math.MaxInt} {
		g := api.Saga{Request: api.Request{Key: 39, Op: api.OpTransfer, A: a, B: 10, Amount: 5, Legs: 1}, Leg: 1}
		s := base()
		s.Sagas = append(s.Sagas, g)
		s.Known = append(s.Known, api.Known{Request: g.Request})
		_, err := ops.Settle(s, g.Request)
		g.Phase, g.Why = api.Back, api.Number(err)
		if g.Why == 0 {
			t.Error(a)
		}
		back := goesOn(t, s, 3, true, g)
		ends(t, back, 3, g.Why, back)
	}
}

// Where no key waits for a reply, none is recorded, and the saga ends all the same.
func TestEndOfAKeyThatDoesNotWait(t *testing.T) {
	want := held(base(), 13, -150)
	want.Sagas = want.Sagas[:2]
	for _, known := range [][]api.Known{nil, base().Known[:4], {{Request: turned(), Reply: api.Reply{ID: 3}, Told: true}}} {
		s := base()
		s.Known, want.Known = known, known
		does(t, s, step(8, true), failure(api.ErrLeg), want)
	}
}
