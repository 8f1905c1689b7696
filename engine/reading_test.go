package engine_test

import (
	"math"
	"slices"
	"testing"

	"hawala/api"
	"hawala/bank"
	"hawala/chart"
	"hawala/engine"
	"hawala/ops"
	"hawala/saga"
)

// P17.1 to P17.3: the chapter, read plainly a second time. What a request does to accounts and payments is taken from ops.

func isWithin(n, least, most int) bool { return n >= least && n <= most }

func isValid(r api.Request) bool {
	right := isWithin(r.Key, 0, ticks-1) && isWithin(r.Until, 0, ticks) && isWithin(r.Legs, 0, 4)
	if r.Op != api.OpTransfer && r.Legs != 0 {
		return false
	}
	switch r.Op {
	case api.OpOpen:
		return right && isWithin(r.A, 0, 2)
	case api.OpVoid:
		return right
	}
	return right && isWithin(int(r.Op), 1, 7) && isWithin(r.Amount, 1, amount)
}

func doByReading(s api.State, e api.Event) answer {
	switch e.What {
	case api.Submit:
		return submitByReading(s, e.Request)
	case api.Step:
		for k, g := range s.Sagas {
			if g.Request.Key == e.Key {
				return stepByReading(s, k, e.OK)
			}
		}
		return answer{s, failure(api.ErrUnknown)}
	case api.Tick:
		return answer{ops.Tick(s), api.Reply{}}
	}
	return answer{s, failure(api.ErrBad)}
}

func submitByReading(s api.State, r api.Request) answer {
	if !isValid(r) {
		return answer{s, failure(api.ErrBad)}
	}
	for _, known := range s.Known {
		switch {
		case known.Request.Key != r.Key:
		case known.Request != r:
			return answer{s, failure(api.ErrKey)}
		case !known.Told:
			return answer{s, failure(api.ErrPending)}
		default:
			return answer{s, known.Reply}
		}
	}
	isLong := r.Op == api.OpTransfer && r.Legs > 0
	if isLong && len(s.Sagas) >= 16 || len(s.Known) >= 256 {
		return answer{s, failure(api.ErrLimit)}
	}
	if !isLong {
		after, reply := ops.Do(s, r)
		return answer{told(after, r, reply), reply}
	}
	after, err := ops.Reserve(s, r)
	if err != nil {
		return answer{told(s, r, failure(api.Number(err))), failure(api.Number(err))}
	}
	after = clone(after)
	after.Sagas = append(after.Sagas, api.Saga{Request: r})
	after.Known = append(after.Known, api.Known{Request: r})
	return answer{after, failure(api.ErrPending)}
}

func stepByReading(s api.State, at int, ok bool) answer {
	g := s.Sagas[at]
	switch {
	case g.Phase == api.Back:
		after, _ := ops.Undo(s, g.Request)
		return endByReading(after, at, g.Why)
	case g.Phase != api.Forward:
	case g.Leg >= g.Request.Legs:
		after, err := ops.Settle(s, g.Request)
		if err == nil {
			return endByReading(after, at, 0)
		}
		g.Phase, g.Why = api.Back, api.Number(err)
	case ok:
		g.Leg, g.Tries = g.Leg+1, 0
	default:
		g.Tries++
		if g.Tries == 4 {
			g.Phase, g.Why = api.Back, api.ErrLeg
		}
	}
	return answer{changed(s, at, g), failure(api.ErrPending)}
}

func endByReading(s api.State, at int, why api.Errno) answer {
	key := s.Sagas[at].Request.Key
	after := clone(s)
	after.Sagas = append(after.Sagas[:at], s.Sagas[at+1:]...)
	for k, known := range s.Known {
		if known.Request.Key == key {
			if !known.Told {
				after.Known[k].Reply, after.Known[k].Told = failure(why), true
			}
			break
		}
	}
	return answer{after, failure(why)}
}

// agrees asks Do, and its reading.
func agrees(t *testing.T, s api.State, e api.Event) answer {
	t.Helper()
	got, want := ask(t, s, e), doByReading(s, e)
	if got.reply != want.reply || !equal(got.s, want.s) {
		t.Fatalf("%+v, in %+v:\n%+v, not\n%+v", e, s, got, want)
	}
	return got
}

// draw is a row of numbers that look drawn, the same each time.
type draw uint64

func (d *draw) below(n int) int {
	*d = *d*6364136223846793005 + 1442695040888963407
	return int(uint64(*d>>33) % uint64(n))
}

func (d *draw) of(ns ...int) int { return ns[d.below(len(ns))] }

func (d *draw) amount() int {
	if d.below(15) == 0 {
		return d.of(anyInts...)
	}
	return 1 + d.below(d.of(3, 40, 400, 20000))
}

// account is mostly a client's.
func (d *draw) account(s api.State) int {
	if d.below(20) == 0 {
		return d.of(anyInts...)
	}
	return 9 + d.below(max(len(s.Accounts)-9, 1))
}

// request is a new one, or one of those that were asked for, or nearly.
func (d *draw) request(s api.State) api.Request {
	if len(s.Known) > 0 && d.below(6) == 0 {
		return d.again(s.Known[d.below(len(s.Known))].Request)
	}
	r := api.Request{Key: d.below(1000), Op: api.Op(d.of(0, 1, 1, 2, 2, 2, 2, 2, 3, 3, 4, 5, 6, 7)), A: d.account(s), B: d.account(s), Amount: d.amount(), Until: max(s.Now, 0) + d.below(60)}
	switch r.Op {
	case api.OpOpen:
		r.A = d.below(3)
	case api.OpTransfer:
		r.Legs = d.below(5)
	case api.OpCapture, api.OpVoid, api.OpRefund, api.OpCharge:
		r.A, r.Amount = d.below(len(s.Payments)+1), 1+d.below(60)
	}
	if d.below(15) == 0 {
		r = d.changed(r)
	}
	return r
}

func (d *draw) again(r api.Request) api.Request {
	if d.below(3) > 0 {
		return r
	}
	return d.changed(r)
}

// changed is a request with another number in one of its fields.
func (d *draw) changed(r api.Request) api.Request {
	n := d.of(d.of(anyInts...), d.below(6))
	switch d.below(7) {
	case 0:
		r.Key = n
	case 1:
		r.Op = api.Op(n)
	case 2:
		r.A = n
	case 3:
		r.B = n
	case 4:
		r.Amount = n
	case 5:
		r.Legs = n
	case 6:
		r.Until = n
	}
	return r
}

// step is mostly one of a saga that goes on.
func (d *draw) step(s api.State) api.Event {
	e := step(d.below(1000), d.below(5) < 2)
	if len(s.Sagas) > 0 && d.below(20) > 0 {
		e.Key = s.Sagas[d.below(len(s.Sagas))].Request.Key
	}
	return e
}

// event has so many steps of ten.
func (d *draw) event(s api.State, steps int) api.Event {
	switch n := d.below(100); {
	case n == 0:
		return api.Event{What: api.What(d.of(anyInts...)), Request: d.request(s), Key: d.below(9)}
	case n < 5:
		return tick()
	case n < 5+95*steps/10:
		return d.step(s)
	}
	return submit(d.request(s))
}

// isRight asks for what holds of each state that New and such calls made.
func isRight(t *testing.T, s api.State) {
	t.Helper()
	if chart.Sums(s.Accounts) != [3]int{} || !chart.Right(s.Accounts) || len(s.Sagas) > 16 || len(s.Known) > 256 {
		t.Fatalf("%v: %+v", chart.Sums(s.Accounts), s)
	}
	helds := make([]int, len(s.Accounts))
	for _, p := range s.Payments {
		if p.Stage == api.Open {
			helds[p.From] += p.Auth - p.Captured
		}
	}
	goOn := map[int]api.Request{}
	for _, g := range s.Sagas {
		helds[g.Request.A] += g.Request.Amount
		goOn[g.Request.Key] = g.Request
		if !saga.Right(g) || !isValid(g.Request) || g.Request.Legs == 0 {
			t.Fatalf("%+v: %+v", g, s)
		}
	}
	for k, a := range s.Accounts {
		if a.Held != helds[k] {
			t.Fatalf("%d has %d held, not %d: %+v", k, a.Held, helds[k], s)
		}
	}
	seen, waits := map[int]bool{}, 0
	for _, known := range s.Known {
		if seen[known.Request.Key] || !isValid(known.Request) {
			t.Fatalf("%+v: %+v", known, s)
		}
		seen[known.Request.Key] = true
		if !known.Told {
			waits++
			if goOn[known.Request.Key] != known.Request || known.Reply != (api.Reply{}) {
				t.Fatalf("%+v: %+v", known, s)
			}
		}
	}
	if waits != len(s.Sagas) || len(goOn) != len(s.Sagas) {
		t.Fatalf("%d keys without a reply: %+v", waits, s)
	}
}

// kept asks that what was told before is told behind it, and that a saga keeps its request.
func kept(t *testing.T, before, after api.State) {
	t.Helper()
	for k, known := range before.Known {
		next := after.Known[k]
		if known.Told && next != known || next.Request != known.Request {
			t.Fatalf("%+v, and then %+v", known, next)
		}
	}
}

// outcome is what came of an event.
type outcome struct {
	what api.What
	op   api.Op
	long bool
	err  api.Errno
}

func outcomeOf(e api.Event, reply api.Reply) outcome {
	o := outcome{what: e.What, err: reply.Err}
	if r := e.Request; e.What == api.Submit {
		o.op, o.long = r.Op, r.Op == api.OpTransfer && r.Legs > 0
	}
	return o
}

// drain steps all sagas to their ends, in a drawn order: that takes no more steps than they have at most.
func (d *draw) drain(t *testing.T, s api.State) api.State {
	t.Helper()
	left := 0
	for _, g := range s.Sagas {
		left += saga.Most(g)
	}
	for ; len(s.Sagas) > 0; left-- {
		if left == 0 {
			t.Fatalf("more steps than %+v have at most", s.Sagas)
		}
		key := s.Sagas[d.below(len(s.Sagas))].Request.Key
		s = agrees(t, s, step(key, d.below(3) == 0)).s
		isRight(t, s)
	}
	return s
}

func TestHistoriesByReading(t *testing.T) {
	seen, most := map[outcome]int{}, 0
	d := draw(1)
	for range 60 {
		s, steps := ops.New(), d.of(1, 5, 6, 7, 8)
		for range d.of(100, 400, 700) {
			e := d.event(s, steps)
			a := agrees(t, s, e)
			isRight(t, a.s)
			kept(t, s, a.s)
			s = a.s
			seen[outcomeOf(e, a.reply)]++
			most = max(most, len(s.Sagas))
		}
		s = d.drain(t, s)
		for _, known := range s.Known {
			refuses(t, s, known.Request, known.Reply)
			stays(t, s, step(known.Request.Key, true), failure(api.ErrUnknown))
		}
	}
	for op := range api.Op(8) {
		for _, err := range []api.Errno{0, api.ErrBad, api.ErrKey, api.ErrLimit} {
			if n := seen[outcome{api.Submit, op, false, err}]; n < 5 {
				t.Errorf("%d with %d was seen %d times", op, err, n)
			}
		}
	}
	for _, err := range []api.Errno{0, api.ErrBad, api.ErrKey, api.ErrLimit, api.ErrUnknown, api.ErrInsufficient, api.ErrLeg, api.ErrPending} {
		if n := seen[outcome{api.Submit, api.OpTransfer, true, err}]; n < 5 {
			t.Errorf("%d was seen %d times", err, n)
		}
	}
	for _, err := range []api.Errno{0, api.ErrUnknown, api.ErrLeg, api.ErrPending} {
		if n := seen[outcome{what: api.Step, err: err}]; n < 100 {
			t.Errorf("a step's %d was seen %d times", err, n)
		}
	}
	if most != 16 {
		t.Errorf("%d sagas at most", most)
	}
}

// state is one that need not be right, but of which the accounts are those of a bank.
func (d *draw) state() api.State {
	s := api.State{Now: d.of(0, 5, ticks-1, ticks, math.MaxInt)}
	for k := range d.of(15, 15, 15, 12, 9, 64) {
		a := api.Account{Cur: k / 3 % 3, Balance: d.below(200)}
		if k >= 9 {
			a.Cur, a.Held = d.below(3), d.below(1+a.Balance)
		}
		if d.below(10) == 0 {
			a.Balance = d.of(balance, balance-1, balance-20)
		}
		if k < 9 && d.below(10) == 0 {
			a.Balance = d.of(-balance, 20-balance)
		}
		s.Accounts = append(s.Accounts, a)
	}
	for range d.of(0, 1, 3) {
		s.Payments = append(s.Payments, api.Payment{From: d.account(s), To: d.account(s), Auth: 9, Captured: d.below(10), Until: s.Now, Stage: api.Stage(d.below(2))})
	}
	for range d.of(0, 3, 10, 240, 255, 256, 257) {
		s.Known = append(s.Known, api.Known{Request: d.request(s), Reply: api.Reply{Err: api.Errno(d.below(14)), ID: d.below(9)}, Told: d.below(3) > 0})
	}
	for range d.of(0, 1, 2, 5, 15, 16, 17) {
		g := d.saga(s)
		s.Sagas = append(s.Sagas, g)
		if d.below(4) > 0 {
			s.Known = append(s.Known, api.Known{Request: g.Request})
		}
	}
	return s
}

// saga is in any phase, mostly of a request that is Long.
func (d *draw) saga(s api.State) api.Saga {
	g := api.Saga{Request: d.request(s), Phase: api.Phase(d.of(0, 0, 0, 1, 1, 2, -1, 3)), Leg: d.below(5), Tries: d.below(5)}
	if d.below(4) > 0 {
		g.Request = api.Request{Key: d.below(1000), Op: api.OpTransfer, A: d.account(s), B: d.account(s), Amount: 1 + d.below(20), Legs: 1 + d.below(4)}
	}
	if g.Phase == api.Forward {
		g.Tries = d.below(4)
	} else {
		g.Why = api.Errno(d.below(14))
	}
	return g
}

func TestDrawnByReading(t *testing.T) {
	seen := map[outcome]int{}
	d := draw(2)
	for range 1500 {
		s := d.state()
		for range 10 {
			e := d.event(s, 5)
			seen[outcomeOf(e, agrees(t, s, e).reply)]++
		}
		for _, key := range engine.Waits(s) {
			agrees(t, s, step(key, true))
		}
	}
	for _, err := range []api.Errno{api.ErrBad, api.ErrUnknown, api.ErrInsufficient, api.ErrOverflow, api.ErrKey, api.ErrLimit, api.ErrPending} {
		if n := seen[outcome{api.Submit, api.OpTransfer, true, err}]; n < 3 {
			t.Errorf("%v was seen %d times", err, n)
		}
	}
	for _, err := range []api.Errno{0, api.ErrUnknown, api.ErrLeg, api.ErrOverflow, api.ErrPending} {
		if n := seen[outcome{what: api.Step, err: err}]; n < 20 {
			t.Errorf("a step's %v was seen %d times", err, n)
		}
	}
}

// P17.3: Run is each event in order.
func TestRunByReading(t *testing.T) {
	d := draw(3)
	for range 2000 {
		s, es := base(), []api.Event{}
		if d.below(3) == 0 {
			s = d.state()
		}
		want, replies := s, []api.Reply{}
		for range d.of(0, 1, 2, 5, 12, 40) {
			e := d.event(want, 6)
			a := doByReading(want, e)
			es, want, replies = append(es, e), a.s, append(replies, a.reply)
		}
		comesTo(t, s, es, replies, want)
	}
}

// T1: where each request comes to its end ahead of the next one, it is as in a bank.
func TestHistoriesAsInABank(t *testing.T) {
	seen := map[outcome]int{}
	d := draw(4)
	for range 40 {
		s, want := ops.New(), ops.New()
		for range d.of(100, 450) {
			r, legs := d.request(s), []bool{}
			for range d.of(0, 0, 1, 3, 6, 20) {
				legs = append(legs, d.below(3) == 0)
			}
			after, reply, used := complete(t, s, r, legs)
			next, reply2, used2 := bank.Do(want, r, legs)
			if !equal(after, next) || reply != reply2 || used != used2 {
				t.Fatalf("%+v, %v: %+v, not %+v\n%+v, not\n%+v", r, legs, reply, reply2, after, next)
			}
			s, want = after, next
			seen[outcomeOf(submit(r), reply)]++
			if d.below(30) == 0 {
				s, want = ask(t, s, tick()).s, ops.Tick(want)
			}
		}
		isRight(t, s)
	}
	for _, err := range []api.Errno{0, api.ErrBad, api.ErrKey, api.ErrLimit, api.ErrUnknown, api.ErrInsufficient, api.ErrLeg} {
		if n := seen[outcome{api.Submit, api.OpTransfer, true, err}]; n < 20 {
			t.Errorf("%v was seen %d times", err, n)
		}
	}
}

// W1: it ends, whatever it is asked.
func TestAnyNumbers(t *testing.T) {
	for _, s := range []api.State{base(), {}} {
		for _, n := range anyInts {
			for op := api.Op(-1); op <= 8; op++ {
				for _, m := range []int{-1, 0, 1, 9, 10, math.MaxInt} {
					agrees(t, s, submit(api.Request{Key: 1, Op: op, A: n, B: m, Amount: 5, Until: 30}))
					agrees(t, s, submit(api.Request{Key: 1, Op: op, A: m, B: n, Amount: 5, Legs: 2}))
					agrees(t, s, submit(api.Request{Key: 1, Op: op, A: m, B: 10, Amount: n, Legs: 1}))
					agrees(t, s, submit(api.Request{Key: 1, Op: op, A: 9, B: m, Amount: 5, Legs: n}))
					agrees(t, s, submit(api.Request{Key: n, Op: op, A: m, Amount: 5, Until: n}))
				}
			}
			agrees(t, s, step(n, true))
			agrees(t, s, api.Event{What: api.What(n), Key: 5})
			agrees(t, at(s, n), tick())
		}
	}
}

// Sagas of any numbers have their steps too.
func TestAnySagas(t *testing.T) {
	for _, n := range anyInts {
		for phase := api.Phase(-1); phase <= 3; phase++ {
			for _, g := range []api.Saga{{Leg: n}, {Leg: 1, Tries: n}, {Leg: 2, Why: api.Errno(n)}, {Leg: 1, Tries: 3}, {Leg: 2}} {
				// The greatest Tries wraps around, and is no last one.
				if g.Phase = phase; g.Tries > 3 && g.Tries < math.MaxInt {
					continue
				}
				for _, r := range []api.Request{long(9, 10, 5, 2), long(n, 10, 5, 2), long(9, n, 5, 2), long(9, 10, n, 2), long(9, 10, 5, n)} {
					g.Request = r
					s := base()
					s.Sagas = append(s.Sagas, g)
					s.Known = append(s.Known, api.Known{Request: r})
					agrees(t, s, step(39, true))
					agrees(t, s, step(39, false))
				}
			}
		}
	}
}

// Of very many events there are as many replies.
func TestRunOfMany(t *testing.T) {
	es := slices.Repeat([]api.Event{submit(opened()), step(9, true)}, 20000)
	s, replies := engine.Run(base(), es)
	if len(replies) != 40000 || !slices.Equal(replies, slices.Repeat([]api.Reply{{ID: 11}, failure(api.ErrUnknown)}, 20000)) || !equal(s, base()) {
		t.Errorf("%d replies", len(replies))
	}
	s, replies = engine.Run(at(base(), ticks-3), slices.Repeat([]api.Event{tick()}, 1000))
	if len(replies) != 1000 || s.Now != ticks {
		t.Errorf("%d replies, %d", len(replies), s.Now)
	}
}
