package ops_test

import (
	"math"
	"testing"

	"hawala/api"
	"hawala/chart"
	"hawala/ops"
)

// P15.1 and P15.2: the chapter, read plainly a second time, without the layers below

type reading struct {
	s   api.State
	id  int
	err api.Errno
}

func (m *reading) fail(err api.Errno) bool {
	if m.err == 0 {
		m.err = err
	}
	return false
}

func (m *reading) isClient(k int) bool { return 9 <= k && k < len(m.s.Accounts) }

// areClients and what follows tell whether it goes on.
func (m *reading) areClients(ks ...int) bool {
	for _, k := range ks {
		if !m.isClient(k) {
			return m.fail(api.ErrUnknown)
		}
	}
	return true
}

func isCurrency(cur int) bool { return cur == 0 || cur == 1 || cur == 2 }

func isAmount(n int) bool { return n >= 1 && n <= amount }

var rates = map[[2]int][2]int{
	{0, 1}: {9, 10}, {0, 2}: {150, 1},
	{1, 0}: {11, 10}, {1, 2}: {160, 1},
	{2, 0}: {1, 151}, {2, 1}: {1, 161},
}

// move is the pairs of what goes from one account to another.
func (m *reading) move(from, to, n int) ([]int, bool) {
	for _, k := range []int{from, to} {
		if k < 0 || k >= len(m.s.Accounts) {
			return nil, m.fail(api.ErrUnknown)
		}
	}
	if from == to || !isAmount(n) {
		return nil, m.fail(api.ErrBad)
	}
	x, y := m.s.Accounts[from].Cur, m.s.Accounts[to].Cur
	if x == y {
		return []int{from, -n, to, n}, true
	}
	if !isCurrency(x) || !isCurrency(y) {
		return nil, m.fail(api.ErrUnknown)
	}
	rate := rates[[2]int{x, y}]
	c := n * rate[0] / rate[1]
	if c > amount {
		return nil, m.fail(api.ErrOverflow)
	}
	if c == 0 {
		return nil, m.fail(api.ErrBad)
	}
	return []int{from, -n, 3*x + 1, n, 3*y + 1, -c, to, c}, true
}

func isBalance(n int) bool { return -balance <= n && n <= balance }

// post adds what pairs say.
func (m *reading) post(ns []int) bool {
	sums := map[int]int{}
	for k := 0; k < len(ns); k += 2 {
		if ns[k] >= len(m.s.Accounts) {
			return m.fail(api.ErrArgument)
		}
		cur := m.s.Accounts[ns[k]].Cur
		sums[cur] += ns[k+1]
		if !isCurrency(cur) || !isBalance(ns[k+1]) || !isBalance(sums[cur]) {
			return m.fail(api.ErrArgument)
		}
	}
	if sums[0] != 0 || sums[1] != 0 || sums[2] != 0 {
		return m.fail(api.ErrArgument)
	}
	for k := 0; k < len(ns); k += 2 {
		a := &m.s.Accounts[ns[k]]
		if !isBalance(a.Balance) || !isBalance(a.Balance+ns[k+1]) {
			return m.fail(api.ErrOverflow)
		}
		a.Balance += ns[k+1]
	}
	for k, a := range m.s.Accounts {
		if k >= 9 && a.Balance-a.Held < 0 {
			return m.fail(api.ErrInsufficient)
		}
	}
	return true
}

// hold holds more of an account, or less.
func (m *reading) hold(k, n int) bool {
	if !m.areClients(k) {
		return false
	}
	if !isAmount(n) {
		return m.fail(api.ErrBad)
	}
	if m.s.Accounts[k].Balance-m.s.Accounts[k].Held < n {
		return m.fail(api.ErrInsufficient)
	}
	m.s.Accounts[k].Held += n
	return true
}

func (m *reading) release(k, n int) bool {
	if !m.areClients(k) {
		return false
	}
	if !isAmount(n) {
		return m.fail(api.ErrBad)
	}
	if m.s.Accounts[k].Held < n {
		return m.fail(api.ErrState)
	}
	m.s.Accounts[k].Held -= n
	return true
}

func (m *reading) open(r api.Request) {
	if len(m.s.Accounts) >= 64 {
		m.fail(api.ErrLimit)
		return
	}
	m.id = len(m.s.Accounts)
	m.s.Accounts = append(m.s.Accounts, api.Account{Cur: r.A})
}

func (m *reading) deposit(r api.Request) {
	if !m.areClients(r.A) {
		return
	}
	cur := m.s.Accounts[r.A].Cur
	if !isCurrency(cur) {
		m.fail(api.ErrUnknown)
		return
	}
	if ns, ok := m.move(3*cur, r.A, r.Amount); ok {
		m.post(ns)
	}
}

func (m *reading) transfer(r api.Request) {
	if !m.areClients(r.A, r.B) {
		return
	}
	if ns, ok := m.move(r.A, r.B, r.Amount); ok {
		m.post(ns)
	}
}

func (m *reading) auth(r api.Request) {
	switch {
	case !m.areClients(r.A, r.B):
	case r.A == r.B || r.Until <= m.s.Now:
		m.fail(api.ErrBad)
	case len(m.s.Payments) >= 64:
		m.fail(api.ErrLimit)
	case m.hold(r.A, r.Amount):
		m.id = len(m.s.Payments)
		m.s.Payments = append(m.s.Payments, api.Payment{From: r.A, To: r.B, Auth: r.Amount, Until: r.Until})
	}
}

// pay does the four Ops of payments.
func (m *reading) pay(r api.Request) {
	if r.A < 0 || r.A >= len(m.s.Payments) {
		m.fail(api.ErrUnknown)
		return
	}
	p := &m.s.Payments[r.A]
	left := 0
	if p.Stage == api.Open {
		left = p.Auth - p.Captured
	}
	gave := p.Captured - p.Refunded - p.Charged
	switch {
	case r.Op != api.OpVoid && r.Amount < 1:
		m.fail(api.ErrBad)
	case r.Op == api.OpVoid && p.Stage != api.Open:
		m.fail(api.ErrState)
	case r.Op == api.OpCapture && r.Amount > left:
		m.fail(api.ErrState)
	case (r.Op == api.OpRefund || r.Op == api.OpCharge) && r.Amount > gave:
		m.fail(api.ErrState)
	case r.Op == api.OpVoid:
		m.release(p.From, left)
		p.Stage = api.Closed
	default:
		if ns, ok := m.move(p.From, p.To, r.Amount); ok {
			m.payWith(p, r, ns)
		}
	}
}

func (m *reading) payWith(p *api.Payment, r api.Request, ns []int) {
	switch r.Op {
	case api.OpCapture:
		if m.release(p.From, r.Amount) && m.post(ns) {
			p.Captured += r.Amount
			if p.Captured == p.Auth {
				p.Stage = api.Closed
			}
		}
	case api.OpRefund:
		m.post(turned(ns))
		p.Refunded += r.Amount
	case api.OpCharge:
		ns = turned(ns)
		to := m.s.Accounts[p.To]
		if free := to.Balance - to.Held; -ns[1] > free {
			// Of an account that has no currency it is not asked what the house bears.
			if !isCurrency(to.Cur) {
				m.fail(api.ErrArgument)
				return
			}
			ns = append(ns, 3*to.Cur+2, ns[1]+free)
			ns[1] = -free
		}
		m.post(ns)
		p.Charged += r.Amount
	}
}

// turned are the pairs of what goes back.
func turned(ns []int) []int {
	back := []int{}
	for k := len(ns) - 2; k >= 0; k -= 2 {
		back = append(back, ns[k], -ns[k+1])
	}
	return back
}

// readings are what the functions are by the chapter.

func read(s api.State, f func(*reading)) answer {
	m := &reading{s: clone(s)}
	f(m)
	if m.err != 0 {
		return answer{clone(s), api.Reply{Err: m.err}}
	}
	return answer{m.s, api.Reply{ID: m.id}}
}

func doByReading(s api.State, r api.Request) answer {
	return read(s, func(m *reading) {
		switch r.Op {
		case api.OpOpen:
			m.open(r)
		case api.OpDeposit:
			m.deposit(r)
		case api.OpTransfer:
			m.transfer(r)
		case api.OpAuth:
			m.auth(r)
		case api.OpCapture, api.OpVoid, api.OpRefund, api.OpCharge:
			m.pay(r)
		default:
			m.fail(api.ErrBad)
		}
	})
}

func reserveByReading(s api.State, r api.Request) answer {
	return read(s, func(m *reading) {
		if !m.areClients(r.A, r.B) {
			return
		}
		if _, ok := m.move(r.A, r.B, r.Amount); ok {
			m.hold(r.A, r.Amount)
		}
	})
}

func settleByReading(s api.State, r api.Request) answer {
	return read(s, func(m *reading) {
		if ns, ok := m.move(r.A, r.B, r.Amount); ok && m.release(r.A, r.Amount) {
			m.post(ns)
		}
	})
}

func undoByReading(s api.State, r api.Request) answer {
	return read(s, func(m *reading) { m.release(r.A, r.Amount) })
}

func tickByReading(s api.State, _ api.Request) answer {
	s = clone(s)
	if s.Now == ticks {
		return answer{s: s}
	}
	s.Now++
	done := map[int]bool{}
	for {
		next := -1
		for k, p := range s.Payments {
			if p.Stage == api.Open && p.Until <= s.Now && !done[k] && (next < 0 || p.Until < s.Payments[next].Until) {
				next = k
			}
		}
		if next < 0 {
			return answer{s: s}
		}
		done[next] = true
		s = doByReading(s, void(next)).s
	}
}

// calls are the functions, each with its reading.
var calls = []struct{ call, reading call }{{do, doByReading}, {reserve, reserveByReading}, {settle, settleByReading}, {undo, undoByReading}, {tick, tickByReading}}

// agrees asks a function, and its reading.
func agrees(t *testing.T, c int, s api.State, r api.Request) answer {
	t.Helper()
	got, want := ask(t, calls[c].call, s, r), calls[c].reading(s, r)
	if got.reply != want.reply || !equal(got.s, want.s) {
		t.Fatalf("call %d of %+v, %+v:\n%+v, not\n%+v", c, s, r, got, want)
	}
	return got
}

// Every Op with every small A, B and Amount.
func TestSmallByReading(t *testing.T) {
	for op := api.Op(-1); op <= 8; op++ {
		for a := -1; a <= 15; a++ {
			for b := -1; b <= 15; b++ {
				for _, n := range []int{0, 1, 2, 7, 8, 10, 11, 31, 54, 61} {
					for c := range 4 {
						agrees(t, c, base(), api.Request{Op: op, A: a, B: b, Amount: n, Until: 21})
					}
				}
			}
		}
	}
}

// draw is a row of numbers that look drawn, the same each time.
type draw uint64

func (d *draw) below(n int) int {
	*d = *d*6364136223846793005 + 1442695040888963407
	return int(uint64(*d>>33) % uint64(n))
}

func (d *draw) of(ns ...int) int { return ns[d.below(len(ns))] }

// amount is mostly a small one.
func (d *draw) amount() int {
	if d.below(12) == 0 {
		return d.of(anyInts...)
	}
	return 1 + d.below(d.of(3, 40, 400, 20000))
}

// index is mostly one of so many, from a first one on.
func (d *draw) index(first, n int) int {
	if d.below(15) == 0 || n <= first {
		return d.of(anyInts...)
	}
	if d.below(15) == 0 {
		return first - 1 + d.below(n-first+2)
	}
	return first + d.below(n-first)
}

func (d *draw) request(s api.State) api.Request {
	r := api.Request{Key: d.below(100), Op: api.Op(d.below(8)), B: d.index(9, len(s.Accounts)), Amount: d.amount(), Legs: d.below(6) - 1, Until: s.Now + d.below(60) - 1}
	if d.below(60) == 0 {
		r.Op = api.Op(d.of(anyInts...))
	}
	switch r.Op {
	case api.OpOpen:
		r.A = d.below(3)
		// Not many of these, so that money is in the accounts there are.
		if len(s.Accounts) > 12 && d.below(20) > 0 {
			r.Op, r.A = api.OpTransfer, d.index(9, len(s.Accounts))
		}
	case api.OpTransfer:
		r.A = d.index(9, len(s.Accounts))
		// All that is free, so that there is none to give back.
		if chart.IsClient(s.Accounts, r.A) && d.below(3) == 0 {
			r.Amount = chart.Free(s.Accounts[r.A])
		}
	case api.OpDeposit, api.OpAuth:
		r.A = d.index(9, len(s.Accounts))
	default:
		r.A = d.index(0, len(s.Payments))
		r.Amount = d.of(r.Amount, 1+d.below(9), 1+d.below(60))
	}
	return r
}

// history is a state that New and the others made, with the transfers that are reserved in it.
type history struct {
	s        api.State
	reserved []api.Request
}

// isRight asks for what holds of each such state.
func (h history) isRight(t *testing.T) {
	t.Helper()
	if sums := chart.Sums(h.s.Accounts); sums != [3]int{} || !chart.Right(h.s.Accounts) {
		t.Fatalf("%v: %+v", sums, h.s)
	}
	helds := make([]int, len(h.s.Accounts))
	for _, p := range h.s.Payments {
		if p.Stage == api.Open {
			helds[p.From] += p.Auth - p.Captured
		}
		if p.Refunded+p.Charged > p.Captured || p.Captured > p.Auth || (p.Captured == p.Auth && p.Stage == api.Open) {
			t.Fatalf("%+v", p)
		}
	}
	for _, r := range h.reserved {
		helds[r.A] += r.Amount
	}
	for k, a := range h.s.Accounts {
		if a.Held != helds[k] {
			t.Fatalf("%d has %d held, not %d: %+v", k, a.Held, helds[k], h.s)
		}
	}
}

// next has one thing more happen, and tells which call it was, and what it answered.
func (h *history) next(t *testing.T, d *draw) (int, api.Request, api.Reply) {
	t.Helper()
	c := d.of(0, 0, 0, 0, 0, 0, 1, 2, 3, 4)
	r := d.request(h.s)
	if c == 2 || c == 3 {
		if len(h.reserved) == 0 {
			c = 1
		} else {
			r = h.reserved[0]
		}
	}
	if c == 1 {
		r.A = d.index(9, len(h.s.Accounts))
	}
	a := agrees(t, c, h.s, r)
	h.s = a.s
	switch {
	case a.reply.Err != 0:
	case c == 1:
		h.reserved = append(h.reserved, r)
	case c == 2 || c == 3:
		h.reserved = h.reserved[1:]
	}
	return c, r, a.reply
}

func TestHistoriesByReading(t *testing.T) {
	type outcome struct {
		call int
		op   api.Op
		err  api.Errno
	}
	seen := map[outcome]int{}
	d := draw(1)
	for range 100 {
		h := history{s: ops.New()}
		for range 500 {
			c, r, reply := h.next(t, &d)
			h.isRight(t)
			if c != 0 {
				r.Op = 0
			}
			seen[outcome{c, r.Op, reply.Err}]++
		}
	}
	for _, o := range []outcome{
		{0, api.OpOpen, 0},
		{0, api.OpDeposit, 0}, {0, api.OpDeposit, api.ErrUnknown}, {0, api.OpDeposit, api.ErrBad},
		{0, api.OpTransfer, 0}, {0, api.OpTransfer, api.ErrUnknown}, {0, api.OpTransfer, api.ErrBad}, {0, api.OpTransfer, api.ErrInsufficient},
		{0, api.OpAuth, 0}, {0, api.OpAuth, api.ErrUnknown}, {0, api.OpAuth, api.ErrBad}, {0, api.OpAuth, api.ErrInsufficient},
		{0, api.OpCapture, 0}, {0, api.OpCapture, api.ErrUnknown}, {0, api.OpCapture, api.ErrBad}, {0, api.OpCapture, api.ErrState},
		{0, api.OpVoid, 0}, {0, api.OpVoid, api.ErrUnknown}, {0, api.OpVoid, api.ErrState},
		{0, api.OpRefund, 0}, {0, api.OpRefund, api.ErrUnknown}, {0, api.OpRefund, api.ErrBad}, {0, api.OpRefund, api.ErrState}, {0, api.OpRefund, api.ErrInsufficient},
		{0, api.OpCharge, 0}, {0, api.OpCharge, api.ErrUnknown}, {0, api.OpCharge, api.ErrBad}, {0, api.OpCharge, api.ErrState},
		{1, 0, 0}, {1, 0, api.ErrUnknown}, {1, 0, api.ErrBad}, {1, 0, api.ErrInsufficient},
		{2, 0, 0}, {3, 0, 0}, {4, 0, 0},
	} {
		if seen[o] < 10 {
			t.Errorf("%+v was seen %d times", o, seen[o])
		}
	}
}

// state is one that need not be right.
func (d *draw) state() api.State {
	s := api.State{Now: d.of(0, 5, ticks-1, ticks, math.MaxInt)}
	for k := range d.of(12, 12, 12, 9, 3, 0, 63, 64, 65) {
		a := api.Account{Cur: k / 3 % 3, Balance: d.below(200)}
		if k >= 9 {
			a.Cur, a.Held = d.below(3), d.below(1+a.Balance)
		}
		if d.below(25) == 0 {
			a.Balance = d.of(balance, balance-1, balance-20, -balance, 20-balance)
		}
		if d.below(150) == 0 {
			a = api.Account{Cur: d.of(anyInts...), Balance: d.of(anyInts...), Held: d.of(anyInts...)}
		}
		s.Accounts = append(s.Accounts, a)
	}
	for range d.of(0, 1, 3, 3, 3, 63, 64, 65) {
		p := api.Payment{From: d.index(9, len(s.Accounts)), To: d.index(9, len(s.Accounts)), Auth: d.below(90), Until: s.Now - 2 + d.below(5), Stage: api.Stage(d.below(2))}
		p.Captured = d.below(1 + p.Auth)
		p.Refunded = d.below(1 + p.Captured)
		p.Charged = d.below(1 + p.Captured - p.Refunded)
		if d.below(100) == 0 {
			p.Auth, p.Captured, p.Stage = d.of(anyInts...), d.of(anyInts...), api.Stage(d.of(anyInts...))
		}
		s.Payments = append(s.Payments, p)
	}
	return s
}

func TestDrawnByReading(t *testing.T) {
	seen := map[api.Errno]int{}
	d := draw(2)
	for range 6000 {
		s := d.state()
		for c := range calls {
			seen[agrees(t, c, s, d.request(s)).reply.Err]++
			seen[agrees(t, 0, s, d.request(s)).reply.Err]++
		}
	}
	for _, n := range []api.Errno{0, api.ErrBad, api.ErrUnknown, api.ErrInsufficient, api.ErrOverflow, api.ErrState, api.ErrLimit, api.ErrArgument} {
		if seen[n] < 20 {
			t.Errorf("%v was seen %d times", n, seen[n])
		}
	}
}

// W6: two results of one state, each with one thing more, know nothing of each other.
func TestTwoResultsOfOneState(t *testing.T) {
	given := roomy(base())
	for _, r := range asks() {
		first, _ := ops.Do(given, r)
		want := clone(first)
		for _, q := range asks() {
			second, _ := ops.Do(given, q)
			ops.Do(first, q)
			ops.Do(second, r)
			second = ops.Tick(second)
			scribble(second)
		}
		if !equal(first, want) || !isUntouched(given, base()) {
			t.Errorf("%+v: memory is shared", r)
		}
	}
	open, _ := ops.Do(given, open(1))
	other, _ := ops.Do(given, api.Request{Op: api.OpOpen, A: 2})
	if open.Accounts[15] != (api.Account{Cur: 1}) || other.Accounts[15] != (api.Account{Cur: 2}) {
		t.Error(open.Accounts, other.Accounts)
	}
}

// The chapter's example.
func TestExample(t *testing.T) {
	s := manyAccounts(ops.New(), 9)
	for range 2 {
		s = ask(t, do, s, open(0)).s
	}
	a := ask(t, do, s, deposit(9, 50))
	if a.reply != (api.Reply{}) || a.s.Accounts[9].Balance != 50 {
		t.Error(a)
	}
	fails(t, do, a.s, transfer(9, 10, 60), api.ErrInsufficient)
	does(t, do, a.s, transfer(9, 10, 50), 0, moved(a.s, 9, -50, 10, 50))
}
