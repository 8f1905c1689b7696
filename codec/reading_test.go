package codec_test

import (
	"bytes"
	"slices"
	"testing"

	"hawala/api"
	"hawala/codec"
)

// P18.1 to P18.3: the chapter, read plainly a second time. Bytes are taken as numbers in a row, and these as what they are of; last, it is asked whether that may be.

// numbersOf are the numbers that bytes are in a row; false, if they are not.
func numbersOf(b []byte) ([]int, bool) {
	ns := []int{}
	for len(b) > 0 {
		size := 1 + slices.IndexFunc(b, func(c byte) bool { return c < 128 })
		n := numberOf(b[:size])
		if size == 0 || !bytes.Equal(number(n), b[:size]) {
			return nil, false
		}
		ns, b = append(ns, n), b[size:]
	}
	return ns, true
}

// numberOf is a number of bytes that may be none: then its own bytes are others.
func numberOf(b []byte) int {
	u := uint64(0)
	for k, c := range b {
		u |= uint64(c%128) << (7 * k)
	}
	if u%2 == 1 {
		return -1 - int(u/2)
	}
	return int(u / 2)
}

// line is numbers that are taken from the front. Where there are too few, or one may not be, it is wrong from then on.
type line struct {
	ns    []int
	wrong bool
}

func (l *line) next() int {
	if len(l.ns) == 0 {
		l.wrong = true
		return 0
	}
	n := l.ns[0]
	l.ns = l.ns[1:]
	return n
}

// count is how many elements come next: never more than there are numbers.
func (l *line) count() int {
	n := l.next()
	if n < 0 || n > len(l.ns) {
		l.wrong = true
		return 0
	}
	return n
}

func (l *line) truth() bool {
	n := l.next()
	l.wrong = l.wrong || n != 0 && n != 1
	return n == 1
}

func (l *line) request() api.Request {
	r := api.Request{Key: l.next()}
	r.Op = api.Op(l.next())
	r.A = l.next()
	r.B = l.next()
	r.Amount = l.next()
	r.Legs = l.next()
	r.Until = l.next()
	return r
}

func (l *line) isEmpty() bool { return !l.wrong && len(l.ns) == 0 }

func eventByReading(b []byte) (api.Event, bool) {
	ns, ok := numbersOf(b)
	l := &line{ns: ns, wrong: !ok}
	e := api.Event{What: api.What(l.next())}
	switch e.What {
	case api.Submit:
		e.Request = l.request()
		ok = isValid(e.Request)
	case api.Step:
		e.Key, e.OK = l.next(), l.truth()
		ok = isWithin(e.Key, -stepKey, stepKey)
	default:
		ok = e.What == api.Tick
	}
	if !ok || !l.isEmpty() {
		return api.Event{}, false
	}
	return e, true
}

func stateByReading(b []byte) (api.State, bool) {
	ns, ok := numbersOf(b)
	l := &line{ns: ns, wrong: !ok}
	s := api.State{Now: l.next()}
	for range l.count() {
		a := api.Account{Cur: l.next()}
		a.Balance, a.Held = l.next(), l.next()
		s.Accounts = append(s.Accounts, a)
	}
	for range l.count() {
		p := api.Payment{From: l.next()}
		p.To, p.Auth, p.Captured, p.Refunded = l.next(), l.next(), l.next(), l.next()
		p.Charged, p.Until, p.Stage = l.next(), l.next(), api.Stage(l.next())
		s.Payments = append(s.Payments, p)
	}
	for range l.count() {
		g := api.Saga{Request: l.request()}
		g.Phase, g.Leg, g.Tries, g.Why = api.Phase(l.next()), l.next(), l.next(), api.Errno(l.next())
		s.Sagas = append(s.Sagas, g)
	}
	for range l.count() {
		k := api.Known{Request: l.request()}
		k.Reply.Err, k.Reply.ID, k.Told = api.Errno(l.next()), l.next(), l.truth()
		s.Known = append(s.Known, k)
	}
	if !l.isEmpty() || !isReadable(s) {
		return api.State{}, false
	}
	return s, true
}

// What may be.

func isWithin(n, least, most int) bool { return n >= least && n <= most }

func isReadable(s api.State) bool {
	return isWithin(s.Now, 0, ticks) && len(s.Payments) <= 64 && len(s.Sagas) <= 16 && len(s.Known) <= 256 &&
		areAccounts(s.Accounts) && isEach(s.Payments, isPayment) && isEach(s.Sagas, isSaga) && isEach(s.Known, isKnown)
}

func isEach[E any](es []E, is func(E) bool) bool {
	return !slices.ContainsFunc(es, func(e E) bool { return !is(e) })
}

func isValid(r api.Request) bool {
	right := isWithin(r.Key, 0, ticks-1) && isWithin(r.Until, 0, ticks) && isWithin(r.Legs, 0, 4)
	if r.Op != api.OpTransfer && r.Legs != 0 {
		return false
	}
	switch r.Op {
	case api.OpOpen:
		return right && isWithin(r.A, 0, 2)
	case api.OpVoid:
		return right
	}
	return right && isWithin(int(r.Op), 1, 7) && isWithin(r.Amount, 1, amount)
}

func areAccounts(as []api.Account) bool {
	for k, a := range as {
		house := k < 9 && (a.Cur != k/3 || a.Held != 0)
		client := k >= 9 && !isWithin(a.Held, 0, a.Balance)
		if house || client || !isWithin(a.Cur, 0, 2) || !isWithin(a.Balance, -balance, balance) {
			return false
		}
	}
	return isWithin(len(as), 9, 64)
}

func isPayment(p api.Payment) bool {
	return isWithin(p.Auth, 1, amount) && isWithin(p.Captured, 0, p.Auth) &&
		isWithin(p.Refunded, 0, p.Captured) && isWithin(p.Charged, 0, p.Captured-p.Refunded) &&
		isWithin(p.Until, 0, ticks) && isWithin(int(p.Stage), 0, 1) && isWithin(p.From, 0, 64) && isWithin(p.To, 0, 64)
}

func isSaga(g api.Saga) bool {
	if !isValid(g.Request) || !isWithin(g.Leg, 0, g.Request.Legs) || !isWithin(g.Tries, 0, 4) {
		return false
	}
	if g.Phase == api.Back {
		return isWithin(int(g.Why), 1, 13)
	}
	return g.Phase == api.Forward && g.Why == 0 && g.Tries != 4 && (g.Leg < g.Request.Legs || g.Tries == 0)
}

func isKnown(k api.Known) bool { return isValid(k.Request) && isWithin(int(k.Reply.Err), 0, 13) }

// agreeOnEvent holds ReadEvent against the second reading. What is read has just the bytes that it was read of, so no two are read as the same.
func agreeOnEvent(t *testing.T, b []byte) {
	t.Helper()
	want, isOne := eventByReading(b)
	e, ok := askEvent(t, b)
	if e != want || ok != isOne {
		t.Errorf("%x: %+v, %t, not %+v, %t", b, e, ok, want, isOne)
	}
	if ok && !bytes.Equal(codec.Event(e), b) {
		t.Errorf("%x: %+v, the bytes of which are %x", b, e, codec.Event(e))
	}
}

// agreeOnState does the same for ReadState.
func agreeOnState(t *testing.T, b []byte) bool {
	t.Helper()
	want, isOne := stateByReading(b)
	s, ok := askState(t, b)
	if !equal(s, want) || ok != isOne {
		t.Errorf("%x: %+v, %t, not %+v, %t", b, s, ok, want, isOne)
	}
	if ok && !bytes.Equal(codec.State(s), b) {
		t.Errorf("%x: %+v, the bytes of which are %x", b, s, codec.State(s))
	}
	return ok
}

// draw is where the drawn things come from.
type draw uint64

// below is from 0 to n-1.
func (d *draw) below(n int) int {
	*d = *d*6364136223846793005 + 1442695040888963407
	return int(uint64(*d) >> 33 % uint64(n))
}

func (d *draw) of(ns ...int) int { return ns[d.below(len(ns))] }

// around is a number from least to most, or, rarely, one that is not.
func (d *draw) around(least, most int) int {
	switch d.below(400) {
	case 0:
		return anyInts[d.below(len(anyInts))]
	case 1:
		return d.of(least-1, most+1)
	}
	switch d.below(4) {
	case 0:
		return d.of(least, most)
	case 1:
		return least + d.below(min(most-least, 1<<30)+1)
	}
	return least + d.below(min(most-least, 9)+1)
}

func (d *draw) request() api.Request {
	r := api.Request{Key: d.around(0, ticks-1), Op: api.Op(d.around(0, 7)), A: d.around(0, 2), B: d.around(-1, 64), Amount: d.around(1, amount), Until: d.around(0, ticks)}
	if r.Op == api.OpTransfer || d.below(200) == 0 {
		r.Legs = d.around(0, 4)
	}
	return r
}

func (d *draw) account(k int) api.Account {
	if k < 9 {
		return api.Account{Cur: k / 3, Balance: d.around(-balance, balance), Held: d.around(0, 0)}
	}
	a := api.Account{Cur: d.around(0, 2), Balance: d.around(0, balance)}
	a.Held = d.around(0, max(a.Balance, 0))
	return a
}

func (d *draw) payment() api.Payment {
	p := api.Payment{From: d.around(0, 64), To: d.around(0, 64), Auth: d.around(1, amount), Until: d.around(0, ticks), Stage: api.Stage(d.around(0, 1))}
	p.Captured = d.around(0, max(p.Auth, 0))
	p.Refunded = d.around(0, max(p.Captured, 0))
	p.Charged = d.around(0, max(p.Captured-p.Refunded, 0))
	return p
}

func (d *draw) saga() api.Saga {
	g := api.Saga{Request: d.request(), Phase: api.Phase(d.around(0, 1))}
	g.Leg = d.around(0, max(g.Request.Legs, 0))
	if g.Phase == api.Back {
		g.Tries, g.Why = d.around(0, 4), api.Errno(d.around(1, 13))
	} else if g.Leg < g.Request.Legs {
		g.Tries = d.around(0, 3)
	}
	return g
}

func (d *draw) known() api.Known {
	return api.Known{Request: d.request(), Reply: api.Reply{Err: api.Errno(d.around(0, 13)), ID: d.around(-1, 64)}, Told: d.below(2) == 0}
}

func (d *draw) state() api.State {
	s := api.State{Now: d.around(0, ticks)}
	for k := range 9 + d.below(4) {
		s.Accounts = append(s.Accounts, d.account(k))
	}
	for range d.below(4) {
		s.Payments = append(s.Payments, d.payment())
	}
	for range d.below(4) {
		s.Sagas = append(s.Sagas, d.saga())
	}
	for range d.below(4) {
		s.Known = append(s.Known, d.known())
	}
	return s
}

func TestDrawnStates(t *testing.T) {
	d := draw(18)
	read, not := 0, 0
	seen := map[string]bool{}
	for range 20000 {
		s := d.state()
		b := ofState(t, s)
		ok := agreeOnState(t, b)
		if ok != isReadable(s) {
			t.Errorf("%+v is read: %t", s, ok)
		}
		if ok {
			read++
		} else {
			not++
		}
		seen[string(b)] = true
	}
	if read < 4000 || not < 4000 || len(seen) < 19900 {
		t.Errorf("%d are read, %d are not, %d are told apart: too few", read, not, len(seen))
	}
}

// The numbers of drawn states, of which some are others, are gone, or are there twice.
func TestDrawnNumbers(t *testing.T) {
	d := draw(81)
	read, not := 0, 0
	for range 20000 {
		ns := stateNumbers(d.state())
		for range 1 + d.below(2) {
			k := d.below(len(ns))
			switch d.below(8) {
			case 0:
				ns = slices.Delete(ns, k, k+1)
			case 1:
				ns = slices.Insert(ns, k, ns[d.below(len(ns))])
			case 2:
				ns[k] = anyInts[d.below(len(anyInts))]
			default:
				ns[k] += d.of(-1, 1)
			}
		}
		if agreeOnState(t, inRow(ns...)) {
			read++
		} else {
			not++
		}
	}
	if read < 1000 || not < 4000 {
		t.Errorf("%d are read and %d are not: too few", read, not)
	}
}

func TestDrawnBytes(t *testing.T) {
	d := draw(1800)
	for range 20000 {
		b := make([]byte, d.below(90))
		for k := range b {
			b[k] = byte(d.of(d.below(256), d.below(20), d.below(4), 0))
		}
		agreeOnEvent(t, b)
		agreeOnState(t, b)
		s := codec.State(d.state())
		agreeOnState(t, slices.Concat(s, b))
		agreeOnState(t, slices.Concat(b, s))
		agreeOnState(t, slices.Concat(s[:d.below(len(s))], b))
	}
}
