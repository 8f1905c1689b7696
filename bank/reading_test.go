package bank_test

import (
	"math"
	"slices"
	"testing"

	"hawala/api"
	"hawala/bank"
	"hawala/chart"
	"hawala/ops"
)

// P16.1 and P16.2: the chapter, read plainly a second time. What a request does to accounts and payments is taken from ops.

func isWithin(n, least, most int) bool { return n >= least && n <= most }

func isValid(r api.Request) bool {
	right := isWithin(r.Key, 0, ticks-1) && isWithin(r.Until, 0, ticks) && isWithin(r.Legs, 0, 4)
	if r.Op != api.OpTransfer && r.Legs != 0 {
		return false
	}
	switch r.Op {
	case api.OpOpen:
		return right && isWithin(r.A, 0, 2)
	case api.OpVoid:
		return right
	}
	return right && isWithin(int(r.Op), 1, 7) && isWithin(r.Amount, 1, amount)
}

func doByReading(s api.State, r api.Request, legs []bool) answer {
	if !isValid(r) {
		return answer{s, api.Reply{Err: api.ErrBad}, 0}
	}
	for _, known := range s.Known {
		switch {
		case known.Request.Key != r.Key:
		case known.Request != r:
			return answer{s, api.Reply{Err: api.ErrKey}, 0}
		case !known.Told:
			return answer{s, api.Reply{Err: api.ErrPending}, 0}
		default:
			return answer{s, known.Reply, 0}
		}
	}
	if len(s.Known) >= 256 {
		return answer{s, api.Reply{Err: api.ErrLimit}, 0}
	}
	if r.Op != api.OpTransfer || r.Legs == 0 {
		after, reply := ops.Do(s, r)
		return answer{told(after, r, reply), reply, 0}
	}
	after, err, used := transferByReading(s, r, legs)
	reply := api.Reply{Err: err}
	return answer{told(after, r, reply), reply, used}
}

// transferByReading has the amount held only in mind: what is let go again was not held.
func transferByReading(s api.State, r api.Request, legs []bool) (api.State, api.Errno, int) {
	held, err := ops.Reserve(s, r)
	if err != nil {
		return s, api.Number(err), 0
	}
	ok, used := agree(r.Legs, legs)
	if !ok {
		return s, api.ErrLeg, used
	}
	after, err := ops.Settle(held, r)
	if err != nil {
		return s, api.Number(err), used
	}
	return after, 0, used
}

// agrees asks Do, and its reading.
func agrees(t *testing.T, s api.State, r api.Request, legs []bool) answer {
	t.Helper()
	got, want := ask(t, s, r, legs), doByReading(s, r, legs)
	if got.reply != want.reply || got.used != want.used || !equal(got.s, want.s) {
		t.Fatalf("%+v, %v, in %+v:\n%+v, not\n%+v", r, legs, s, got, want)
	}
	return got
}

// draw is a row of numbers that look drawn, the same each time.
type draw uint64

func (d *draw) below(n int) int {
	*d = *d*6364136223846793005 + 1442695040888963407
	return int(uint64(*d>>33) % uint64(n))
}

func (d *draw) of(ns ...int) int { return ns[d.below(len(ns))] }

func (d *draw) amount() int {
	if d.below(15) == 0 {
		return d.of(anyInts...)
	}
	return 1 + d.below(d.of(3, 40, 400, 20000))
}

// account is mostly a client's.
func (d *draw) account(s api.State) int {
	if d.below(20) == 0 {
		return d.of(anyInts...)
	}
	return 9 + d.below(max(len(s.Accounts)-9, 1))
}

func (d *draw) legs() []bool {
	legs := []bool{}
	for range d.of(0, 0, 1, 3, 6, 20) {
		legs = append(legs, d.below(3) == 0)
	}
	return legs
}

// request is a new one, or one of those that were asked for, or nearly.
func (d *draw) request(s api.State) api.Request {
	if len(s.Known) > 0 && d.below(6) == 0 {
		return d.again(s.Known[d.below(len(s.Known))].Request)
	}
	r := api.Request{Key: d.below(1000), Op: api.Op(d.of(0, 1, 1, 2, 2, 2, 2, 2, 3, 3, 4, 5, 6, 7)), A: d.account(s), B: d.account(s), Amount: d.amount(), Until: max(s.Now, 0) + d.below(60)}
	switch r.Op {
	case api.OpOpen:
		r.A = d.below(3)
	case api.OpTransfer:
		r.Legs = d.below(5)
	case api.OpCapture, api.OpVoid, api.OpRefund, api.OpCharge:
		r.A, r.Amount = d.below(len(s.Payments)+1), 1+d.below(60)
	}
	if d.below(15) == 0 {
		r = d.changed(r)
	}
	return r
}

func (d *draw) again(r api.Request) api.Request {
	if d.below(3) > 0 {
		return r
	}
	return d.changed(r)
}

// changed is a request with another number in one of its fields.
func (d *draw) changed(r api.Request) api.Request {
	n := d.of(d.of(anyInts...), d.below(6))
	switch d.below(7) {
	case 0:
		r.Key = n
	case 1:
		r.Op = api.Op(n)
	case 2:
		r.A = n
	case 3:
		r.B = n
	case 4:
		r.Amount = n
	case 5:
		r.Legs = n
	case 6:
		r.Until = n
	}
	return r
}

// isRight asks for what holds of each state that New and such calls made.
func isRight(t *testing.T, s api.State) {
	t.Helper()
	if chart.Sums(s.Accounts) != [3]int{} || !chart.Right(s.Accounts) || len(s.Sagas) > 0 || len(s.Known) > 256 {
		t.Fatalf("%v: %+v", chart.Sums(s.Accounts), s)
	}
	helds := make([]int, len(s.Accounts))
	for _, p := range s.Payments {
		if p.Stage == api.Open {
			helds[p.From] += p.Auth - p.Captured
		}
	}
	for k, a := range s.Accounts {
		if a.Held != helds[k] {
			t.Fatalf("%d has %d held, not %d: %+v", k, a.Held, helds[k], s)
		}
	}
	seen := map[int]bool{}
	for _, known := range s.Known {
		if seen[known.Request.Key] || !known.Told || !isValid(known.Request) {
			t.Fatalf("%+v: %+v", known, s)
		}
		seen[known.Request.Key] = true
	}
}

// outcome is what came of a request.
type outcome struct {
	op   api.Op
	long bool
	err  api.Errno
}

func outcomeOf(r api.Request, reply api.Reply) outcome {
	return outcome{r.Op, r.Op == api.OpTransfer && r.Legs > 0, reply.Err}
}

func TestHistoriesByReading(t *testing.T) {
	seen := map[outcome]int{}
	d := draw(1)
	for range 100 {
		s := ops.New()
		for range d.of(100, 300, 450) {
			r := d.request(s)
			a := agrees(t, s, r, d.legs())
			s = a.s
			isRight(t, s)
			seen[outcomeOf(r, a.reply)]++
			// A tick is no request, but goes by all the same.
			if d.below(30) == 0 {
				s = ops.Tick(s)
				isRight(t, s)
			}
		}
	}
	for op := range api.Op(8) {
		for _, err := range []api.Errno{0, api.ErrBad, api.ErrKey, api.ErrLimit} {
			if seen[outcome{op, false, err}] < 5 {
				t.Errorf("%d with %d was seen %d times", op, err, seen[outcome{op, false, err}])
			}
		}
	}
	for _, err := range []api.Errno{0, api.ErrBad, api.ErrKey, api.ErrLimit, api.ErrUnknown, api.ErrInsufficient, api.ErrLeg} {
		if seen[outcome{api.OpTransfer, true, err}] < 50 {
			t.Errorf("%d was seen %d times", err, seen[outcome{api.OpTransfer, true, err}])
		}
	}
}

// state is one that need not be right, but of which the accounts are those of a bank.
func (d *draw) state() api.State {
	s := api.State{Now: d.of(0, 5, ticks-1, ticks, math.MaxInt)}
	for k := range d.of(15, 15, 15, 12, 9, 64) {
		a := api.Account{Cur: k / 3 % 3, Balance: d.below(200)}
		if k >= 9 {
			a.Cur, a.Held = d.below(3), d.below(1+a.Balance)
		}
		if d.below(10) == 0 {
			a.Balance = d.of(balance, balance-1, balance-20)
		}
		if k < 9 && d.below(10) == 0 {
			a.Balance = d.of(-balance, 20-balance)
		}
		s.Accounts = append(s.Accounts, a)
	}
	for range d.of(0, 1, 3) {
		s.Payments = append(s.Payments, api.Payment{From: d.account(s), To: d.account(s), Auth: 9, Captured: d.below(10), Until: s.Now, Stage: api.Stage(d.below(2))})
	}
	for range d.of(0, 0, 1, 2) {
		s.Sagas = append(s.Sagas, api.Saga{Request: d.request(s)})
	}
	for range d.of(0, 3, 10, 255, 256, 257) {
		s.Known = append(s.Known, api.Known{Request: d.request(s), Reply: api.Reply{Err: api.Errno(d.below(14)), ID: d.below(9)}, Told: d.below(3) > 0})
	}
	return s
}

func TestDrawnByReading(t *testing.T) {
	seen := map[outcome]int{}
	d := draw(2)
	for range 4000 {
		s := d.state()
		for range 5 {
			r := d.request(s)
			seen[outcomeOf(r, agrees(t, s, r, d.legs()).reply)]++
		}
	}
	for _, err := range []api.Errno{0, api.ErrBad, api.ErrUnknown, api.ErrInsufficient, api.ErrOverflow, api.ErrKey, api.ErrLimit, api.ErrLeg, api.ErrPending} {
		if seen[outcome{api.OpTransfer, true, err}] < 20 {
			t.Errorf("%v was seen %d times", err, seen[outcome{api.OpTransfer, true, err}])
		}
	}
}

// P16.2: Run is each request in order.
func TestRunByReading(t *testing.T) {
	d := draw(3)
	for range 2000 {
		s, rs, legs := base(), []api.Request{}, d.legs()
		if d.below(3) == 0 {
			s = d.state()
		}
		for range d.of(0, 1, 2, 5, 12) {
			r := d.request(s)
			// Some of them come twice, or nearly.
			if len(rs) > 0 && d.below(4) == 0 {
				r = d.again(rs[d.below(len(rs))])
			}
			rs = append(rs, r)
		}
		want, replies, left := s, []api.Reply{}, legs
		for _, r := range rs {
			a := doByReading(want, r, left)
			want, left = a.s, left[a.used:]
			replies = append(replies, a.reply)
		}
		comesTo(t, s, rs, legs, replies, want)
	}
}

// W1: it ends, whatever it is asked.
func TestAnyNumbers(t *testing.T) {
	for _, s := range []api.State{base(), {}} {
		for _, n := range anyInts {
			for op := api.Op(-1); op <= 8; op++ {
				for _, m := range []int{-1, 0, 1, 9, 10, math.MaxInt} {
					agrees(t, s, api.Request{Key: 1, Op: op, A: n, B: m, Amount: 5, Until: 30}, nil)
					agrees(t, s, api.Request{Key: 1, Op: op, A: m, B: n, Amount: 5, Legs: 2}, says("nynnnn"))
					agrees(t, s, api.Request{Key: 1, Op: op, A: m, B: 10, Amount: n, Legs: 1}, says("nnnny"))
					agrees(t, s, api.Request{Key: 1, Op: op, A: 9, B: m, Amount: 5, Legs: n}, says("ynynyn"))
					agrees(t, s, api.Request{Key: n, Op: op, A: m, Amount: 5, Until: n}, nil)
				}
			}
		}
	}
}

// What a slice of answers has behind it does not matter, and a list of replies is as long as that of requests.
func TestRunOfMany(t *testing.T) {
	rs := slices.Repeat([]api.Request{long(9, 10, 1, 4)}, 5000)
	s, replies := bank.Run(base(), rs, bank.Legs(repeat(false, 3)))
	if len(replies) != 5000 || slices.ContainsFunc(replies, func(r api.Reply) bool { return r != api.Reply{} }) || !equal(s, told(moved(base(), 9, -1, 10, 1), rs[0], api.Reply{})) {
		t.Errorf("%d replies", len(replies))
	}
}
