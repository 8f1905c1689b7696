package engine_test

import (
	"slices"
	"testing"

	"hawala/api"
	"hawala/bank"
	"hawala/engine"
	"hawala/ops"
)

// runs asks Run, twice: the answers are the same, what is given is not touched, and the one answer has nothing of the other's, or of what was given.
func runs(t *testing.T, s api.State, es []api.Event) (api.State, []api.Reply) {
	t.Helper()
	given, asked := roomy(s), room(es, markEvent)
	after, replies := engine.Run(given, asked)
	other, replies2 := engine.Run(given, asked)
	if !slices.Equal(replies, replies2) || !equal(after, other) {
		t.Errorf("%+v: %+v, and then %+v", es, replies, replies2)
	}
	own, ownReplies := clone(after), slices.Clone(replies)
	// What is unchanged may be what was given itself.
	if !equal(after, s) {
		scribble(other)
	}
	over(replies2, api.Reply{Err: 69})
	if !equal(after, own) || !slices.Equal(replies, ownReplies) || !isUntouched(given, s) || !isLeft(asked, es, markEvent) {
		t.Errorf("%+v: what is given is changed, or memory is shared", es)
	}
	return own, ownReplies
}

// comesTo asks for the replies, and the state.
func comesTo(t *testing.T, s api.State, es []api.Event, replies []api.Reply, want api.State) {
	t.Helper()
	after, got := runs(t, s, es)
	if !slices.Equal(got, replies) || !equal(after, want) {
		t.Errorf("%+v: %+v, not %+v\n%+v, not\n%+v", es, got, replies, after, want)
	}
}

// submits are the events of requests with the keys 100, 101 and so on.
func submits(rs ...api.Request) []api.Event {
	es := []api.Event{}
	for k, r := range rs {
		r.Key = 100 + k
		es = append(es, submit(r))
	}
	return es
}

func failures(errs ...api.Errno) []api.Reply {
	replies := []api.Reply{}
	for _, err := range errs {
		replies = append(replies, failure(err))
	}
	return replies
}

// P17.3

func TestRunOfNoEvents(t *testing.T) {
	for _, s := range append(states(), api.State{}) {
		comesTo(t, s, nil, nil, s)
		comesTo(t, s, []api.Event{}, nil, s)
	}
}

func TestRunOfOne(t *testing.T) {
	for _, e := range append(events(), api.Event{What: -1}) {
		a := ask(t, base(), e)
		comesTo(t, base(), []api.Event{e}, []api.Reply{a.reply}, a.s)
	}
}

// Each one stands on what the ones before it made.
func TestRunInOrder(t *testing.T) {
	r := api.Request{Key: 90, Op: api.OpTransfer, A: 15, B: 14, Amount: 11, Legs: 1}
	es := slices.Concat(
		submits(open(2), deposit(15, 70), auth(15, 13, 30, 21), transfer(15, 14, 30)),
		[]api.Event{submit(r), step(90, true), submit(r), tick(), submit(r), step(90, false), submit(r), step(90, true), {What: 3}, submit(r)},
	)
	replies := append([]api.Reply{{ID: 15}, {}, {ID: 2}, {}}, failures(3, 2, 3, 0, 3, 2, 3, 2, 1, 3)...)
	want := base()
	want.Accounts = append(want.Accounts, api.Account{Cur: 2, Balance: 40})
	want.Accounts[6].Balance -= 70
	want.Accounts[14].Balance += 30
	want.Payments = append(want.Payments, api.Payment{From: 15, To: 13, Auth: 30, Until: 21, Stage: api.Closed})
	want.Now = 21
	for k, e := range append(es[:4:4], es[4]) {
		want = told(want, e.Request, replies[k])
	}
	comesTo(t, base(), es, replies, want)
	// Behind the tick what was held is free, so that it goes.
	es = slices.Concat(es[:4], []api.Event{tick(), submit(r), step(90, true), submit(r), step(90, false), submit(r), step(90, true)})
	replies = append([]api.Reply{{ID: 15}, {}, {ID: 2}, {}}, failures(0, 10, 10, 10, 0, 0, 2)...)
	want = moved(want, 15, -11, 14, 11)
	want.Known[9].Reply = api.Reply{}
	comesTo(t, base(), es, replies, want)
}

// In parts it comes to the same as at once.
func TestRunInParts(t *testing.T) {
	es := slices.Concat(
		submits(open(0), deposit(15, 30), long(9, 10, 3, 1), long(9, 15, 5, 2), long(13, 9, 302, 1)),
		[]api.Event{step(104, true), step(102, false), tick(), step(103, true), step(104, true), step(8, true), step(103, true), step(5, true), step(102, true), step(103, true), step(7, true), step(102, true)},
	)
	whole, replies := runs(t, base(), es)
	if !slices.Equal(engine.Waits(whole), []int{5}) {
		t.Error(engine.Waits(whole))
	}
	for k := range len(es) + 1 {
		s, first := runs(t, base(), es[:k])
		s, second := runs(t, s, es[k:])
		if !equal(s, whole) || !slices.Equal(append(first, second...), replies) {
			t.Errorf("%d: %+v %+v", k, first, second)
		}
	}
	s := base()
	for k, e := range es {
		a := ask(t, s, e)
		if a.reply != replies[k] {
			t.Errorf("%+v: %+v, not %+v", e, a.reply, replies[k])
		}
		s = a.s
	}
	if !equal(s, whole) {
		t.Errorf("%+v, not %+v", s, whole)
	}
}

// The same event twice: a request is told again, a step and a tick are ones more.
func TestRunOfTheSameEventTwice(t *testing.T) {
	for _, r := range append(asks(), transfer(9, 10, 71), void(1), long(9, 10, 3, 1), long(9, 10, 71, 1)) {
		a := ask(t, base(), submit(r))
		comesTo(t, base(), []api.Event{submit(r), submit(r), submit(r)}, []api.Reply{a.reply, a.reply, a.reply}, a.s)
	}
	comesTo(t, base(), []api.Event{tick(), tick(), tick()}, failures(0, 0, 0), at(base(), 23))
	comesTo(t, base(), []api.Event{step(8, true), step(8, true)}, failures(api.ErrLeg, api.ErrUnknown), ended(held(base(), 13, -150), 2, api.ErrLeg))
	_, replies := runs(t, base(), says(5, "yyyy"))
	if !slices.Equal(replies, failures(10, 0, 2, 2)) {
		t.Error(replies)
	}
}

// Behind the last key there is none more; those that are known are told all the same.
func TestRunUpToTheMostKeys(t *testing.T) {
	es, want := []api.Event{}, []api.Reply{}
	for k := range 300 {
		es = append(es, submit(api.Request{Key: k, Op: api.OpOpen, A: k % 3}))
		// First there are no more accounts, and from 256 on no more keys.
		if k < 55 {
			want = append(want, api.Reply{ID: 9 + k})
		} else {
			want = append(want, failure(api.ErrLimit))
		}
	}
	s, got := runs(t, ops.New(), es)
	if !slices.Equal(got, want) || len(s.Accounts) != 64 || len(s.Known) != 256 {
		t.Errorf("%d accounts, %d keys: %+v", len(s.Accounts), len(s.Known), got)
	}
	for k, known := range s.Known {
		if known != (api.Known{Request: es[k].Request, Reply: want[k], Told: true}) {
			t.Errorf("%+v", known)
		}
	}
	comesTo(t, s, es, want, s)
}

// Sixteen sagas go on, the next ones do not begin, until one of them ends.
func TestRunUpToTheMostSagas(t *testing.T) {
	es := []api.Event{}
	for k := range 20 {
		es = append(es, submit(api.Request{Key: k, Op: api.OpTransfer, A: 13, B: 14, Amount: 1 + k, Legs: 1}))
	}
	s := base()
	s.Sagas, s.Known = nil, nil
	s, got := runs(t, s, es)
	if want := append(slices.Repeat(failures(api.ErrPending), 16), slices.Repeat(failures(api.ErrLimit), 4)...); !slices.Equal(got, want) || len(s.Sagas) != 16 || len(s.Known) != 16 {
		t.Errorf("%+v, not %+v", got, want)
	}
	s, got = runs(t, s, slices.Concat(says(9, "yy"), es[16:18], says(3, "nnnny"), es[16:18]))
	if want := failures(10, 0, 10, 7, 10, 10, 10, 10, 9, 10, 10); !slices.Equal(got, want) {
		t.Errorf("%+v, not %+v", got, want)
	}
	if got, want := engine.Waits(s), []int{0, 1, 2, 4, 5, 6, 7, 8, 10, 11, 12, 13, 14, 15, 16, 17}; !slices.Equal(got, want) {
		t.Errorf("%v, not %v", got, want)
	}
}

// orders calls f with each way in which lists can be put together, so that each of them stays in its order. They are given by their numbers.
func orders(left []int, order []int, f func([]int)) {
	last := true
	for k := range left {
		if left[k] > 0 {
			last = false
			left[k]--
			orders(left, append(order, k), f)
			left[k]++
		}
	}
	if last {
		f(order)
	}
}

// Sagas go on beside one another: in whatever order they are stepped, each comes to what it comes to alone, and all of them to the same state.
func TestSagasInEachOrder(t *testing.T) {
	rs := []api.Request{long(9, 10, 30, 1), long(11, 12, 5, 2), long(9, 12, 20, 3)}
	answers := []string{"nyy", "yy-", "nnnny"}
	came := []api.Errno{0, 0, api.ErrLeg}
	s, want := base(), held(moved(base(), 9, -30, 10, 30, 11, -5, 12, 5), 9, 0)
	for k := range rs {
		rs[k].Key = 60 + k
		s = begins(t, s, rs[k])
		want = told(want, rs[k], failure(came[k]))
	}
	count := 0
	orders([]int{3, 3, 5}, nil, func(order []int) {
		count++
		steps, es, replies := make([]int, 3), []api.Event{}, []api.Reply{}
		for _, k := range order {
			es = append(es, step(60+k, answers[k][steps[k]] == 'y'))
			steps[k]++
			reply := failure(api.ErrPending)
			if steps[k] == len(answers[k]) {
				reply = failure(came[k])
			}
			replies = append(replies, reply)
		}
		after, got := engine.Run(s, es)
		if !slices.Equal(got, replies) || !equal(after, want) {
			t.Fatalf("%v: %+v, not %+v\n%+v, not\n%+v", order, got, replies, after, want)
		}
	})
	if count != 9240 {
		t.Error(count)
	}
}

// Where there is room for one of two alone, the one that is settled first has it.
func TestTheFirstOneThatIsSettled(t *testing.T) {
	a, b := long(9, 10, 4, 1), long(9, 10, 3, 1)
	a.Key, b.Key = 60, 61
	s, _ := runs(t, nearlyFull(), []api.Event{submit(a), submit(b), step(60, true), step(61, true)})
	for _, order := range [][]int{{60, 61}, {61, 60}} {
		first, second := order[0], order[1]
		after, replies := runs(t, s, []api.Event{step(first, true), step(second, true), step(second, true), submit(a), submit(b), step(first, true)})
		ra, rb, amount := failure(0), failure(api.ErrOverflow), 4
		if first == 61 {
			ra, rb, amount = rb, ra, 3
		}
		want := append(failures(0, api.ErrPending, api.ErrOverflow), ra, rb, failure(api.ErrUnknown))
		if !slices.Equal(replies, want) || !equal(after, told(told(moved(nearlyFull(), 9, -amount, 10, amount), a, ra), b, rb)) {
			t.Errorf("%v: %+v, not %+v\n%+v", order, replies, want, after)
		}
	}
}

// What one saga brings, another one can take, once it is settled. Of the 70 that go and come back, 1 stays with the house.
func TestWhatASagaBrings(t *testing.T) {
	in, out := long(9, 12, 70, 1), long(12, 9, 63, 1)
	in.Key, out.Key = 60, 61
	s, replies := runs(t, base(), []api.Event{submit(in), step(60, true), submit(out), step(60, true), submit(out)})
	if !slices.Equal(replies, failures(10, 10, 3, 0, 3)) {
		t.Error(replies)
	}
	out.Key = 62
	s, replies = runs(t, s, []api.Event{submit(out), step(62, true), step(62, true)})
	if !slices.Equal(replies, failures(10, 10, 0)) || s.Accounts[12] != (api.Account{Cur: 1}) || s.Accounts[9] != (api.Account{Balance: 99, Held: 30}) {
		t.Errorf("%+v, %+v", replies, s.Accounts)
	}
	sums(t, s)
}

// complete submits a request, and steps its saga to its end: the last reply is what came of it.
func complete(t *testing.T, s api.State, r api.Request, legs []bool) (api.State, api.Reply, int) {
	t.Helper()
	a, used := ask(t, s, submit(r)), 0
	for engine.Find(a.s, r.Key) >= 0 {
		g := a.s.Sagas[engine.Find(a.s, r.Key)]
		// Only a leg takes an answer; behind the last one they agree.
		ok := true
		if g.Phase == api.Forward && g.Leg < r.Legs && used < len(legs) {
			ok = legs[used]
			used++
		}
		a = ask(t, a.s, step(r.Key, ok))
	}
	return a.s, a.reply, used
}

// T1: where each request comes to its end ahead of the next one, it is as in a bank.
func TestAsInABank(t *testing.T) {
	r := long(9, 10, 30, 2)
	for _, legs := range [][]bool{nil, {true, true}, {false, true}, {false, false, false, false}, {true, false, false, false, false}, {false, false, false, true, true}} {
		for _, s := range []api.State{base(), many(base(), 255), crowd(base(), 15), ops.New(), nearlyFull()} {
			for _, r := range append(asks(), r, long(9, 10, 71, 1), long(8, 9, 5, 2), transfer(9, 10, 71), void(1), open(-1), opened(), refused()) {
				after, reply, used := complete(t, s, r, legs)
				want, reply2, used2 := bank.Do(s, r, legs)
				if !equal(after, want) || reply != reply2 || used != used2 {
					t.Errorf("%+v, %v: %+v, not %+v\n%+v, not\n%+v", r, legs, reply, reply2, after, want)
				}
			}
		}
	}
}
