package codec_test

import (
	"bytes"
	"math"
	"slices"
	"testing"

	"hawala/api"
	"hawala/codec"
)

const (
	balance = 1 << 50
	amount  = 1 << 40
	ticks   = 1 << 30
	stepKey = 1 << 62
)

// anyInts are of all sizes.
var anyInts = []int{math.MinInt, math.MinInt + 1, -stepKey - 1, -stepKey, -balance - 1, -balance, -amount, -ticks, -65, -64, -2, -1, 0, 1, 2, 3, 4, 5, 8, 9, 13, 14, 16, 17, 63, 64, 65, 256, 257, ticks - 1, ticks, ticks + 1, amount, amount + 1, balance, balance + 1, stepKey, stepKey + 1, math.MaxInt - 1, math.MaxInt}

// wrongNumbers are no numbers of layer 2, whatever stands behind them.
var wrongNumbers = []string{
	// Longer than they must be.
	"\x80\x00", "\x82\x00", "\x81\x80\x00", "\x80\x80\x80\x80\x80\x80\x80\x80\x80\x00",
	// More than 64 bits.
	"\x80\x80\x80\x80\x80\x80\x80\x80\x80\x02", "\xff\xff\xff\xff\xff\xff\xff\xff\xff\x7f", "\x80\x80\x80\x80\x80\x80\x80\x80\x80\x80\x01",
}

// number is a plain second reading of how layer 2 has one.
func number(n int) []byte {
	u := uint64(n) * 2
	if n < 0 {
		u = uint64(-1-n)*2 + 1
	}
	b := []byte{}
	for ; u > 127; u /= 128 {
		b = append(b, byte(u%128+128))
	}
	return append(b, byte(u))
}

// inRow are numbers one behind the other.
func inRow(ns ...int) []byte {
	b := []byte{}
	for _, n := range ns {
		b = append(b, number(n)...)
	}
	return b
}

// truth is the number of a bool.
func truth(is bool) int {
	if is {
		return 1
	}
	return 0
}

// The numbers that the chapters name, in their order.

func requestNumbers(r api.Request) []int {
	return []int{r.Key, int(r.Op), r.A, r.B, r.Amount, r.Legs, r.Until}
}

func eventNumbers(e api.Event) []int {
	ns := []int{int(e.What)}
	if e.What == api.Submit {
		ns = append(ns, requestNumbers(e.Request)...)
	}
	if e.What == api.Step {
		ns = append(ns, e.Key, truth(e.OK))
	}
	return ns
}

func accountNumbers(a api.Account) []int { return []int{a.Cur, a.Balance, a.Held} }

func paymentNumbers(p api.Payment) []int {
	return []int{p.From, p.To, p.Auth, p.Captured, p.Refunded, p.Charged, p.Until, int(p.Stage)}
}

func sagaNumbers(g api.Saga) []int {
	return append(requestNumbers(g.Request), int(g.Phase), g.Leg, g.Tries, int(g.Why))
}

func knownNumbers(k api.Known) []int {
	return append(requestNumbers(k.Request), int(k.Reply.Err), k.Reply.ID, truth(k.Told))
}

func stateNumbers(s api.State) []int {
	ns := []int{s.Now}
	ns = append(ns, listNumbers(s.Accounts, accountNumbers)...)
	ns = append(ns, listNumbers(s.Payments, paymentNumbers)...)
	ns = append(ns, listNumbers(s.Sagas, sagaNumbers)...)
	return append(ns, listNumbers(s.Known, knownNumbers)...)
}

// listNumbers are how many elements there are, and the numbers of each.
func listNumbers[E any](es []E, numbers func(E) []int) []int {
	ns := []int{len(es)}
	for _, e := range es {
		ns = append(ns, numbers(e)...)
	}
	return ns
}

// ops are all that there are, in their order.
var ops = []api.Op{api.OpOpen, api.OpDeposit, api.OpTransfer, api.OpAuth, api.OpCapture, api.OpVoid, api.OpRefund, api.OpCharge}

// plain is a valid request of an Op.
func plain(op api.Op) api.Request {
	return api.Request{Key: 3, Op: op, A: 1, B: 12, Amount: 5, Until: 9}
}

// requests are valid ones of all Ops, small ones and the greatest ones.
func requests() []api.Request {
	rs := []api.Request{{}, {Op: api.OpVoid, A: math.MinInt, B: math.MaxInt, Amount: math.MinInt}}
	for _, op := range ops {
		rs = append(rs, plain(op), api.Request{Op: op, Amount: 1}, api.Request{Key: ticks - 1, Op: op, A: 2, B: -1, Amount: amount, Until: ticks})
	}
	for legs := range 5 {
		r := plain(api.OpTransfer)
		r.Legs, r.A, r.B = legs, math.MaxInt, math.MinInt
		rs = append(rs, r)
	}
	return rs
}

// wrongRequests are not valid, each by one thing only.
func wrongRequests() []api.Request {
	rs := []api.Request{}
	with := func(r api.Request, change func(r *api.Request, n int), ns ...int) {
		for _, n := range ns {
			x := r
			change(&x, n)
			rs = append(rs, x)
		}
	}
	for _, op := range ops {
		r := plain(op)
		with(r, func(r *api.Request, n int) { r.Key = n }, -1, ticks, math.MaxInt, math.MinInt)
		with(r, func(r *api.Request, n int) { r.Until = n }, -1, ticks+1, math.MaxInt, math.MinInt)
		with(r, func(r *api.Request, n int) { r.Legs = n }, -1, 5, math.MaxInt, math.MinInt)
		with(r, func(r *api.Request, n int) { r.Op = api.Op(n) }, -1, 8, math.MaxInt, math.MinInt)
		if op != api.OpTransfer {
			with(r, func(r *api.Request, n int) { r.Legs = n }, 1, 4)
		}
		if op == api.OpOpen {
			with(r, func(r *api.Request, n int) { r.A = n }, -1, 3, math.MaxInt, math.MinInt)
		} else if op != api.OpVoid {
			with(r, func(r *api.Request, n int) { r.Amount = n }, 0, -1, amount+1, math.MaxInt, math.MinInt)
		}
	}
	return rs
}

// The bytes that are given have room behind them, in which a valid end stands: nothing may be read or written there.
const mark = "\x00\x00\x00\x00\x00\x00\x00\x00"

func roomyBytes(b []byte) []byte { return append(slices.Clone(b), mark...)[:len(b)] }

func isLeftBytes(given, b []byte) bool {
	return string(given[:len(given)+len(mark)]) == string(b)+mark
}

// askEvent calls ReadEvent, twice: the answers are the same, the bytes are not touched, and the zero Event stands beside false.
func askEvent(t *testing.T, b []byte) (api.Event, bool) {
	t.Helper()
	given := roomyBytes(b)
	e, ok := codec.ReadEvent(given)
	other, ok2 := codec.ReadEvent(given)
	if e != other || ok != ok2 || !isLeftBytes(given, b) || !ok && e != (api.Event{}) {
		t.Errorf("%x: %+v, %t, and then %+v, %t; the bytes are %x", b, e, ok, other, ok2, given)
	}
	return e, ok
}

func readsEvent(t *testing.T, b []byte, want api.Event) {
	t.Helper()
	if e, ok := askEvent(t, b); e != want || !ok {
		t.Errorf("%x: %+v, %t, not %+v", b, e, ok, want)
	}
}

func readsNoEvent(t *testing.T, b []byte) {
	t.Helper()
	if e, ok := askEvent(t, b); ok {
		t.Errorf("%x is read as %+v", b, e)
	}
}

// isEvent asks for an event's bytes, whatever stands in the fields that its What does not encode, and for bytes of their own at each call.
func isEvent(t *testing.T, e api.Event, want []byte) {
	t.Helper()
	b := codec.Event(e)
	over(codec.Event(e), 0xee)
	over(codec.Event(noisy(e)), 0xee)
	if !bytes.Equal(b, want) {
		t.Errorf("%+v: %x, not %x", e, b, want)
	}
	if b := codec.Event(noisy(e)); !bytes.Equal(b, want) {
		t.Errorf("%+v: %x, not %x", noisy(e), b, want)
	}
}

// over writes over a slice, and over the room behind it.
func over[E any](es []E, e E) {
	es = es[:cap(es)]
	for k := range es {
		es[k] = e
	}
}

// noisy is an event with other things in those fields that are not encoded.
func noisy(e api.Event) api.Event {
	r := api.Request{Key: 77, Op: api.OpDeposit, A: 9, Amount: 8}
	switch e.What {
	case api.Submit:
		return api.Event{What: e.What, Request: e.Request, Key: 5, OK: !e.OK}
	case api.Step:
		return api.Event{What: e.What, Request: r, Key: e.Key, OK: e.OK}
	}
	return api.Event{What: e.What, Request: r, Key: -7, OK: true}
}

// events are of each What, all of which can be read.
func events() []api.Event {
	es := []api.Event{{What: api.Tick}}
	for _, r := range requests() {
		es = append(es, api.Event{Request: r})
	}
	for _, key := range anyInts {
		if key >= -stepKey && key <= stepKey {
			es = append(es, api.Event{What: api.Step, Key: key}, api.Event{What: api.Step, Key: key, OK: true})
		}
	}
	return es
}

// P18.1: events

// encodings are written out by hand: no code of the package made them.
var encodings = []struct {
	e    api.Event
	code string
}{
	{api.Event{What: api.Tick}, "\x04"},
	{api.Event{}, "\x00\x00\x00\x00\x00\x00\x00\x00"},
	{api.Event{Request: api.Request{Key: 1, A: 2}}, "\x00\x02\x00\x04\x00\x00\x00\x00"},
	{api.Event{Request: api.Request{Key: 1, Op: 2, A: 3, B: 4, Amount: 5, Legs: 4, Until: 7}}, "\x00\x02\x04\x06\x08\x0a\x08\x0e"},
	{api.Event{Request: api.Request{Key: 63, Op: 7, A: -1, B: -2, Amount: 64, Until: 150}}, "\x00\x7e\x0e\x01\x03\x80\x01\x00\xac\x02"},
	{api.Event{What: api.Step}, "\x02\x00\x00"},
	{api.Event{What: api.Step, Key: 5}, "\x02\x0a\x00"},
	{api.Event{What: api.Step, Key: 5, OK: true}, "\x02\x0a\x02"},
	{api.Event{What: api.Step, Key: -1, OK: true}, "\x02\x01\x02"},
	{api.Event{What: api.Step, Key: 64}, "\x02\x80\x01\x00"},
	{api.Event{What: api.Step, Key: stepKey}, "\x02\x80\x80\x80\x80\x80\x80\x80\x80\x80\x01\x00"},
	{api.Event{What: api.Step, Key: -stepKey, OK: true}, "\x02\xff\xff\xff\xff\xff\xff\xff\xff\x7f\x02"},
}

// wrongEncodings are of events that can't be read.
var wrongEncodings = []struct {
	e    api.Event
	code string
}{
	{api.Event{What: -1}, "\x01"},
	{api.Event{What: 3}, "\x06"},
	{api.Event{What: 64}, "\x80\x01"},
	{api.Event{What: math.MaxInt}, "\xfe\xff\xff\xff\xff\xff\xff\xff\xff\x01"},
	{api.Event{What: math.MinInt}, "\xff\xff\xff\xff\xff\xff\xff\xff\xff\x01"},
	{api.Event{Request: api.Request{A: 3}}, "\x00\x00\x00\x06\x00\x00\x00\x00"},
	{api.Event{Request: api.Request{Key: -1}}, "\x00\x01\x00\x00\x00\x00\x00\x00"},
	{api.Event{Request: api.Request{Op: 1, Amount: 1, Legs: 1}}, "\x00\x00\x02\x00\x00\x02\x02\x00"},
	{api.Event{What: api.Step, Key: stepKey + 1}, "\x02\x82\x80\x80\x80\x80\x80\x80\x80\x80\x01\x00"},
	{api.Event{What: api.Step, Key: -stepKey - 1, OK: true}, "\x02\x81\x80\x80\x80\x80\x80\x80\x80\x80\x01\x02"},
}

func TestEvent(t *testing.T) {
	for _, c := range slices.Concat(encodings, wrongEncodings) {
		isEvent(t, c.e, []byte(c.code))
	}
	for _, e := range events() {
		isEvent(t, e, inRow(eventNumbers(e)...))
	}
}

func TestEventOfAnyNumbers(t *testing.T) {
	for _, n := range anyInts {
		if n < 0 || n > 2 {
			isEvent(t, api.Event{What: api.What(n)}, inRow(n))
		}
		isEvent(t, api.Event{What: api.Step, Key: n}, inRow(1, n, 0))
		isEvent(t, api.Event{What: api.Step, Key: n, OK: true}, inRow(1, n, 1))
		for k := range 7 {
			ns := []int{3, 2, 1, -7, 500, 2, 90}
			ns[k] = n
			r := api.Request{Key: ns[0], Op: api.Op(ns[1]), A: ns[2], B: ns[3], Amount: ns[4], Legs: ns[5], Until: ns[6]}
			isEvent(t, api.Event{Request: r}, inRow(slices.Insert(ns, 0, 0)...))
		}
	}
	for _, r := range wrongRequests() {
		isEvent(t, api.Event{Request: r}, inRow(slices.Insert(requestNumbers(r), 0, 0)...))
	}
}

func TestReadEvent(t *testing.T) {
	for _, c := range encodings {
		readsEvent(t, []byte(c.code), c.e)
	}
	for _, e := range events() {
		readsEvent(t, inRow(eventNumbers(e)...), e)
		readsEvent(t, codec.Event(noisy(e)), e)
	}
}

func TestReadEventOfWhatCanNotBeRead(t *testing.T) {
	for _, c := range wrongEncodings {
		readsNoEvent(t, []byte(c.code))
	}
	for _, r := range wrongRequests() {
		readsNoEvent(t, codec.Event(api.Event{Request: r}))
	}
	for _, n := range anyInts {
		if n < 0 || n > 2 {
			readsNoEvent(t, inRow(n))
			readsNoEvent(t, inRow(n, 5, 1))
			readsNoEvent(t, inRow(n, 3, 0, 1, 0, 0, 0, 0))
		}
	}
}

func TestReadEventOfSteps(t *testing.T) {
	for _, key := range anyInts {
		for _, ok := range anyInts {
			b := inRow(1, key, ok)
			if key >= -stepKey && key <= stepKey && (ok == 0 || ok == 1) {
				readsEvent(t, b, api.Event{What: api.Step, Key: key, OK: ok == 1})
			} else {
				readsNoEvent(t, b)
			}
		}
	}
}

func TestReadEventOfNoBytes(t *testing.T) {
	readsNoEvent(t, nil)
	readsNoEvent(t, []byte{})
	// What stands in the room behind a slice's length is not there.
	for _, c := range encodings {
		readsNoEvent(t, []byte(c.code)[:0])
	}
}

func TestReadEventOfCutBytes(t *testing.T) {
	for _, e := range events() {
		b := inRow(eventNumbers(e)...)
		for n := range b {
			readsNoEvent(t, b[:n])
		}
	}
}

func TestReadEventWithBytesBehind(t *testing.T) {
	for _, e := range events() {
		b := inRow(eventNumbers(e)...)
		for c := range 256 {
			readsNoEvent(t, append(b, byte(c)))
		}
		for _, rest := range [][]byte{b, []byte("\x00\x00"), make([]byte, 70), make([]byte, 100), make([]byte, 1<<16)} {
			readsNoEvent(t, slices.Concat(b, rest))
			readsNoEvent(t, slices.Concat(rest, b))
		}
	}
}

func TestReadEventOfWrongNumbers(t *testing.T) {
	for _, e := range events() {
		ns := eventNumbers(e)
		for k := range ns {
			for _, wrong := range wrongNumbers {
				readsNoEvent(t, slices.Concat(inRow(ns[:k]...), []byte(wrong), inRow(ns[k+1:]...)))
			}
			// The right number, but with an empty group behind it.
			long := number(ns[k])
			long[len(long)-1] += 128
			readsNoEvent(t, slices.Concat(inRow(ns[:k]...), long, []byte{0}, inRow(ns[k+1:]...)))
		}
	}
}

func TestReadEventOfTurnedBytes(t *testing.T) {
	valid, not := 0, 0
	for _, e := range events() {
		b := inRow(eventNumbers(e)...)
		for k := range b {
			for x := 1; x < 256; x++ {
				b[k] ^= byte(x)
				agreeOnEvent(t, b)
				if got, ok := codec.ReadEvent(b); ok {
					valid++
					if got == e {
						t.Errorf("%x is read as %+v too", b, e)
					}
				} else {
					not++
				}
				b[k] ^= byte(x)
			}
		}
	}
	if valid < 5000 || not < 5000 {
		t.Errorf("%d are read and %d are not: too few", valid, not)
	}
}

// All of up to two bytes, and all of up to eight bytes of a few.
func TestReadEventOfAllShortBytes(t *testing.T) {
	read := 0
	ask := func(b []byte) {
		agreeOnEvent(t, b)
		if _, ok := codec.ReadEvent(b); ok {
			read++
		}
	}
	for c := range 1 << 16 {
		ask([]byte{byte(c >> 8), byte(c)})
		ask([]byte{byte(c)})
	}
	few := []byte{0, 1, 2, 4, 0x80}
	var all func(b []byte)
	all = func(b []byte) {
		if ask(b); len(b) < 8 {
			for _, c := range few {
				all(append(b, c))
			}
		}
	}
	all(nil)
	if read < 1000 {
		t.Errorf("%d are read: too few", read)
	}
}

func TestExample(t *testing.T) {
	if b := codec.Event(api.Event{What: api.Tick}); !bytes.Equal(b, []byte{4}) {
		t.Errorf("%x", b)
	}
	if e, ok := codec.ReadEvent([]byte{4}); e != (api.Event{What: api.Tick}) || !ok {
		t.Errorf("%+v, %t", e, ok)
	}
}
