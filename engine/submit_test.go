package engine_test

import (
	"math"
	"slices"
	"testing"

	"hawala/api"
	"hawala/engine"
	"hawala/ops"
)

// refuses submits a request for a reply with which nothing is changed.
func refuses(t *testing.T, s api.State, r api.Request, want api.Reply) {
	t.Helper()
	stays(t, s, submit(r), want)
}

// atOnce submits a request for a reply, and for what is changed beside the keys. It is told again.
func atOnce(t *testing.T, s api.State, r api.Request, reply api.Reply, want api.State) {
	t.Helper()
	after := does(t, s, submit(r), reply, told(want, r, reply))
	again(t, after, r, reply)
}

// fails submits a request that comes to an error: this is recorded, and nothing else is changed.
func fails(t *testing.T, s api.State, r api.Request, want api.Errno) {
	t.Helper()
	atOnce(t, s, r, failure(want), s)
}

// begins submits a request that goes on in steps.
func begins(t *testing.T, s api.State, r api.Request) api.State {
	t.Helper()
	after := does(t, s, submit(r), failure(api.ErrPending), goes(s, api.Saga{Request: r}))
	again(t, after, r, failure(api.ErrPending))
	return after
}

// again submits a request that is known, and others of its key.
func again(t *testing.T, s api.State, r api.Request, reply api.Reply) {
	t.Helper()
	refuses(t, s, r, reply)
	for _, other := range others(r)[:2] {
		refuses(t, s, other, failure(api.ErrKey))
	}
}

// P17.2, Submit: requests that are not valid

// notValid are requests that may not be, each in one way.
func notValid() []api.Request {
	rs := []api.Request{}
	with := func(r api.Request, change func(*api.Request)) {
		change(&r)
		rs = append(rs, r)
	}
	for _, r := range append(asks(), long(9, 10, 5, 2)) {
		for _, n := range []int{-1, -2, ticks, ticks + 1, math.MinInt, math.MaxInt} {
			with(r, func(r *api.Request) { r.Key = n })
		}
		for _, n := range []int{-1, ticks + 1, math.MinInt, math.MaxInt} {
			with(r, func(r *api.Request) { r.Until = n })
		}
		for _, n := range []int{-1, 5, 6, math.MinInt, math.MaxInt} {
			with(r, func(r *api.Request) { r.Legs = n })
		}
		for _, n := range []int{1, 2, 4} {
			if r.Op != api.OpTransfer {
				with(r, func(r *api.Request) { r.Legs = n })
			}
		}
		for _, n := range []int{0, -1, amount + 1, math.MinInt, math.MaxInt} {
			if r.Op != api.OpOpen && r.Op != api.OpVoid {
				with(r, func(r *api.Request) { r.Amount = n })
			}
		}
		for _, op := range []api.Op{-1, 8, 9, 256, math.MinInt, math.MaxInt} {
			with(r, func(r *api.Request) { r.Op = op })
		}
	}
	for _, cur := range []int{-1, 3, 4, 9, math.MinInt, math.MaxInt} {
		rs = append(rs, open(cur))
	}
	return rs
}

func TestNotValid(t *testing.T) {
	for _, s := range states() {
		for _, r := range notValid() {
			refuses(t, s, r, failure(api.ErrBad))
		}
	}
}

// Also where the key is known, of another request or of this one, told or not.
func TestNotValidOfAKeyThatIsKnown(t *testing.T) {
	for _, s := range []api.State{base(), many(base(), 256), crowd(base(), 16)} {
		for _, r := range notValid() {
			for _, key := range []int{4, 5, 6, 7, 8} {
				if 0 <= r.Key && r.Key < ticks {
					r.Key = key
				}
				refuses(t, s, r, failure(api.ErrBad))
			}
			refuses(t, told(s, r, api.Reply{ID: 12}), r, failure(api.ErrBad))
			known := clone(s)
			known.Known = append(known.Known, api.Known{Request: r})
			refuses(t, known, r, failure(api.ErrBad))
		}
	}
}

// P17.2, Submit: a key that is known

// full are states in which some are known, with more and more keys and sagas.
func full() []api.State {
	return []api.State{base(), many(base(), 255), many(base(), 256), many(base(), 257), crowd(base(), 15), crowd(base(), 16), crowd(base(), 17), many(crowd(base(), 16), 256), many(crowd(base(), 17), 257)}
}

func TestKnown(t *testing.T) {
	for _, s := range full() {
		refuses(t, s, opened(), api.Reply{ID: 11})
		refuses(t, s, refused(), failure(api.ErrInsufficient))
		for _, r := range []api.Request{pending(), ready(), turned()} {
			refuses(t, s, r, failure(api.ErrPending))
		}
		for _, known := range s.Known {
			want := known.Reply
			if !known.Told {
				want = failure(api.ErrPending)
			}
			refuses(t, s, known.Request, want)
		}
	}
}

// A reply is told as it stands, with all that it has.
func TestKnownReplies(t *testing.T) {
	for _, reply := range []api.Reply{{}, {ID: 1}, {Err: 1}, {Err: 13, ID: -5}, {Err: api.ErrKey}, {Err: api.ErrPending, ID: 2}, {Err: -1, ID: math.MaxInt}} {
		for _, r := range append(asks(), long(9, 10, 5, 2)) {
			s := told(base(), r, reply)
			refuses(t, s, r, reply)
			// As long as there is none, what stands there does not count.
			s.Known[5].Told = false
			refuses(t, s, r, failure(api.ErrPending))
		}
	}
}

// others are requests of the same key that differ, mostly in one field each. All of them may be.
func others(r api.Request) []api.Request {
	rs := []api.Request{}
	add := func(change func(*api.Request)) {
		other := r
		change(&other)
		if other != r && isValid(other) {
			rs = append(rs, other)
		}
	}
	add(func(r *api.Request) { r.A-- })
	add(func(r *api.Request) { r.A++ })
	add(func(r *api.Request) { r.B++ })
	add(func(r *api.Request) { r.Amount++ })
	add(func(r *api.Request) { r.Until++ })
	add(func(r *api.Request) { r.Legs++ })
	add(func(r *api.Request) { r.Legs = 0 })
	for op := range api.Op(8) {
		add(func(r *api.Request) { r.Op = op })
		add(func(r *api.Request) { r.Op, r.Legs = op, 0 })
	}
	return rs
}

func TestKnownOfAnotherRequest(t *testing.T) {
	for _, s := range full() {
		for _, r := range []api.Request{opened(), pending(), refused(), ready(), turned()} {
			for _, other := range others(r) {
				refuses(t, s, other, failure(api.ErrKey))
			}
		}
	}
	for _, r := range append(asks(), transfer(9, 10, 71), long(9, 10, 5, 2), long(9, 10, 71, 2)) {
		a := ask(t, base(), submit(r))
		for _, other := range others(r) {
			refuses(t, a.s, other, failure(api.ErrKey))
		}
		// Of another key it is another request.
		if other := others(r)[0]; other.Key == r.Key {
			other.Key++
			if b := ask(t, a.s, submit(other)); len(b.s.Known) != 7 || b.s.Known[6].Request != other {
				t.Errorf("%+v: %+v", other, b)
			}
		}
	}
}

// P17.2, Submit: no more sagas

func TestUpToTheMostSagas(t *testing.T) {
	for n := 1; n <= 4; n++ {
		r := long(9, 10, 5, n)
		for _, k := range []int{3, 14, 15} {
			if s := begins(t, crowd(base(), k), r); len(s.Sagas) != k+1 {
				t.Error(len(s.Sagas))
			}
		}
		for _, k := range []int{16, 17, 18, 40} {
			refuses(t, crowd(base(), k), r, failure(api.ErrLimit))
			// Also where there are no more keys, or it could not be reserved.
			refuses(t, many(crowd(base(), k), 255), r, failure(api.ErrLimit))
			refuses(t, many(crowd(base(), k), 256), r, failure(api.ErrLimit))
			refuses(t, crowd(base(), k), long(8, 10, 5, n), failure(api.ErrLimit))
			refuses(t, crowd(base(), k), long(9, 9, 5, n), failure(api.ErrLimit))
			refuses(t, crowd(base(), k), long(9, 10, 71, n), failure(api.ErrLimit))
		}
	}
	if api.MaxSagas != 16 {
		t.Error(api.MaxSagas)
	}
}

// What is done at once needs no saga.
func TestAtOnceBesideTheMostSagas(t *testing.T) {
	for _, k := range []int{15, 16, 17, 18} {
		s := crowd(base(), k)
		grown := clone(s)
		grown.Accounts = append(grown.Accounts, api.Account{Cur: 1})
		atOnce(t, s, open(1), api.Reply{ID: 15}, grown)
		atOnce(t, s, deposit(9, 5), api.Reply{}, moved(s, 0, -5, 9, 5))
		atOnce(t, s, transfer(9, 10, 5), api.Reply{}, moved(s, 9, -5, 10, 5))
		fails(t, s, transfer(9, 10, 71), api.ErrInsufficient)
		fails(t, s, void(2), api.ErrUnknown)
		refuses(t, many(s, 256), open(1), failure(api.ErrLimit))
	}
}

// It was not recorded: when a saga has ended, the same request goes on.
func TestRefusedForSagasAndAskedAgain(t *testing.T) {
	r := long(9, 10, 5, 2)
	s := crowd(base(), 16)
	refuses(t, s, r, failure(api.ErrLimit))
	s = ask(t, s, step(8, true)).s
	if len(s.Sagas) != 15 {
		t.Fatal(engine.Waits(s))
	}
	s = begins(t, s, r)
	r.Key++
	refuses(t, s, r, failure(api.ErrLimit))
}

// P17.2, Submit: no more keys

func TestUpToTheMostKeys(t *testing.T) {
	for _, r := range append(asks(), transfer(9, 10, 71), deposit(8, 1), long(9, 10, 5, 2), long(9, 10, 71, 2)) {
		for _, n := range []int{5, 254, 255} {
			a := ask(t, many(base(), n), submit(r))
			want := api.Known{Request: r, Reply: a.reply, Told: true}
			if a.reply.Err == api.ErrPending {
				want = api.Known{Request: r}
			}
			if len(a.s.Known) != n+1 || a.s.Known[n] != want {
				t.Errorf("%+v with %d keys: %+v", r, n, a.reply)
			}
			if n == 255 {
				other := r
				other.Key++
				refuses(t, a.s, other, failure(api.ErrLimit))
			}
		}
		for _, n := range []int{256, 257, 258, 512} {
			refuses(t, many(base(), n), r, failure(api.ErrLimit))
		}
	}
	if api.MaxKeys != 256 {
		t.Error(api.MaxKeys)
	}
}

// Keys do not become fewer when a saga ends.
func TestKeysStayWhenASagaEnds(t *testing.T) {
	s := many(base(), 256)
	for _, key := range []int{7, 8} {
		s = ask(t, s, step(key, true)).s
	}
	if len(s.Known) != 256 || len(s.Sagas) != 1 {
		t.Error(len(s.Known), engine.Waits(s))
	}
	refuses(t, s, open(1), failure(api.ErrLimit))
	refuses(t, s, ready(), api.Reply{})
}

// P17.2, Submit: requests that are not Long

func TestAtOnce(t *testing.T) {
	s := base()
	grown := clone(s)
	grown.Accounts = append(grown.Accounts, api.Account{Cur: 1})
	want := []struct {
		id int
		s  api.State
	}{
		{15, grown},
		{0, moved(s, 0, -5, 9, 5)},
		{0, moved(s, 9, -5, 10, 5)},
		{2, pays(held(s, 9, 5), 2, api.Payment{From: 9, To: 10, Auth: 5, Until: 21})},
		{0, pays(held(moved(s, 9, -5, 10, 5), 9, -5), 0, api.Payment{From: 9, To: 10, Auth: 30, Captured: 5, Until: 100})},
		{0, pays(held(s, 9, -30), 0, api.Payment{From: 9, To: 10, Auth: 30, Until: 100, Stage: api.Closed})},
		{0, pays(moved(s, 10, -5, 9, 5), 1, api.Payment{From: 9, To: 10, Auth: 20, Captured: 20, Refunded: 5, Until: 200, Stage: api.Closed})},
		{0, pays(moved(s, 10, -5, 9, 5), 1, api.Payment{From: 9, To: 10, Auth: 20, Captured: 20, Charged: 5, Until: 200, Stage: api.Closed})},
	}
	for k, r := range asks() {
		if r.Op != api.Op(k) {
			t.Error(r)
		}
		atOnce(t, s, r, api.Reply{ID: want[k].id}, want[k].s)
	}
}

// An error of ops.Do is a reply as any other is: it is recorded, and told again.
func TestAtOnceWithAnError(t *testing.T) {
	s := base()
	full := clone(s)
	for len(full.Accounts) < 64 {
		full.Accounts = append(full.Accounts, api.Account{Cur: 2})
	}
	fails(t, full, open(1), api.ErrLimit)
	for _, k := range []int{-1, 0, 3, 8, 15, math.MaxInt, math.MinInt} {
		fails(t, s, deposit(k, 5), api.ErrUnknown)
		fails(t, s, transfer(k, 9, 5), api.ErrUnknown)
		fails(t, s, transfer(9, k, 5), api.ErrUnknown)
		fails(t, s, auth(k, 9, 5, 21), api.ErrUnknown)
		fails(t, s, auth(9, k, 5, 21), api.ErrUnknown)
	}
	rich := moved(s, 0, 1000-balance, 2, -896, 9, balance-104)
	fails(t, rich, deposit(9, 5), api.ErrOverflow)
	atOnce(t, rich, deposit(9, 4), api.Reply{}, moved(rich, 0, -4, 9, 4))
	fails(t, s, transfer(9, 9, 5), api.ErrBad)
	fails(t, s, transfer(9, 10, 71), api.ErrInsufficient)
	fails(t, s, transfer(9, 11, 1), api.ErrBad)
	fails(t, s, auth(9, 9, 5, 21), api.ErrBad)
	fails(t, s, auth(9, 10, 5, 20), api.ErrBad)
	fails(t, s, auth(9, 10, 71, 21), api.ErrInsufficient)
	paid := clone(s)
	for len(paid.Payments) < 64 {
		paid.Payments = append(paid.Payments, s.Payments[1])
	}
	fails(t, paid, auth(9, 10, 5, 21), api.ErrLimit)
	for _, k := range []int{-1, 2, 64, math.MaxInt, math.MinInt} {
		fails(t, s, capture(k, 5), api.ErrUnknown)
		fails(t, s, void(k), api.ErrUnknown)
		fails(t, s, refund(k, 5), api.ErrUnknown)
		fails(t, s, charge(k, 5), api.ErrUnknown)
	}
	fails(t, s, capture(0, 31), api.ErrState)
	fails(t, s, void(1), api.ErrState)
	fails(t, s, refund(1, 21), api.ErrState)
	fails(t, s, charge(1, 21), api.ErrState)
}

// What sagas hold is not free for others.
func TestAtOnceBesideWhatSagasHold(t *testing.T) {
	s := base()
	fails(t, s, transfer(10, 9, 54), api.ErrInsufficient)
	atOnce(t, s, transfer(10, 9, 53), api.Reply{}, moved(s, 10, -53, 9, 53))
	fails(t, s, transfer(11, 12, 47), api.ErrInsufficient)
	fails(t, s, auth(13, 9, 8851, 30), api.ErrInsufficient)
	atOnce(t, s, auth(13, 9, 8850, 30), api.Reply{ID: 2}, pays(held(s, 13, 8850), 2, api.Payment{From: 13, To: 9, Auth: 8850, Until: 30}))
	// What is charged back beyond it, the house loses.
	poor := moved(s, 10, -53, 9, 53)
	atOnce(t, poor, charge(1, 12), api.Reply{}, pays(moved(poor, 2, -12, 9, 12), 1, api.Payment{From: 9, To: 10, Auth: 20, Captured: 20, Charged: 12, Until: 200, Stage: api.Closed}))
}

// What came to an error is not done later either, when it could be.
func TestAnErrorStays(t *testing.T) {
	for _, legs := range []int{0, 2} {
		short := api.Request{Key: 50, Op: api.OpTransfer, A: 12, B: 11, Amount: 5, Legs: legs}
		fails(t, base(), short, api.ErrInsufficient)
		a := ask(t, base(), submit(short))
		rich := ask(t, a.s, submit(deposit(12, 9)))
		if rich.reply != (api.Reply{}) {
			t.Error(rich.reply)
		}
		refuses(t, rich.s, short, failure(api.ErrInsufficient))
		stays(t, rich.s, step(50, true), failure(api.ErrUnknown))
		short.Key++
		if legs == 0 {
			atOnce(t, rich.s, short, api.Reply{}, moved(rich.s, 12, -5, 11, 5))
		} else {
			begins(t, rich.s, short)
		}
	}
}

// The keys that may be, and those fields of a request that do not matter, are kept as they are.
func TestWhatIsRecorded(t *testing.T) {
	for _, key := range []int{0, 1, 3, 9, ticks - 2, ticks - 1} {
		for _, b := range anyInts {
			for _, until := range []int{0, 1, 19, 20, ticks} {
				r := api.Request{Key: key, Op: api.OpDeposit, A: 9, B: b, Amount: 2, Until: until}
				a := ask(t, base(), submit(r))
				if a.reply != (api.Reply{}) || !equal(a.s, told(moved(base(), 0, -2, 9, 2), r, api.Reply{})) {
					t.Errorf("%+v: %+v", r, a)
				}
				r = api.Request{Key: key, Op: api.OpTransfer, A: 9, B: 10, Amount: 2, Legs: 3, Until: until}
				does(t, base(), submit(r), failure(api.ErrPending), goes(base(), api.Saga{Request: r}))
			}
		}
	}
	for _, n := range anyInts {
		r := api.Request{Key: 9, Op: api.OpVoid, A: 0, B: n, Amount: n}
		if a := ask(t, base(), submit(r)); a.reply != (api.Reply{}) || a.s.Known[5].Request != r {
			t.Errorf("%+v: %+v", r, a)
		}
	}
}

// P17.2, Submit: requests that are Long

func TestLong(t *testing.T) {
	for n := 1; n <= 4; n++ {
		for _, s := range []api.State{base(), many(base(), 255), crowd(base(), 14), at(base(), 0), at(base(), ticks)} {
			for _, c := range [][3]int{{9, 10, 30}, {9, 10, 70}, {10, 9, 53}, {9, 12, 70}, {13, 9, 151}, {11, 13, 46}} {
				sums(t, begins(t, s, long(c[0], c[1], c[2], n)))
			}
		}
	}
	atOnce(t, base(), long(9, 10, 30, 0), api.Reply{}, moved(base(), 9, -30, 10, 30))
	if api.MaxLegs != 4 {
		t.Error(api.MaxLegs)
	}
}

// What is held for the first one is not free for the next.
func TestLongOnesOfOneAccount(t *testing.T) {
	s := base()
	for k, n := range []int{30, 30, 10} {
		r := long(9, 10, n, 2)
		r.Key = 60 + k
		s = begins(t, s, r)
	}
	fails(t, s, long(9, 10, 1, 1), api.ErrInsufficient)
	fails(t, s, transfer(9, 10, 1), api.ErrInsufficient)
	if !slices.Equal(engine.Waits(s), []int{5, 7, 8, 60, 61, 62}) {
		t.Error(engine.Waits(s))
	}
}

func TestReserveOfNoClient(t *testing.T) {
	for _, k := range []int{math.MinInt, -1, 0, 1, 4, 8, 15, 16, 63, 64, math.MaxInt} {
		for n := 1; n <= 4; n++ {
			fails(t, base(), long(k, 10, 5, n), api.ErrUnknown)
			fails(t, base(), long(9, k, 5, n), api.ErrUnknown)
			fails(t, base(), long(k, k, 5, n), api.ErrUnknown)
			fails(t, ops.New(), long(k, 9, 5, n), api.ErrUnknown)
		}
	}
}

// It would go nowhere, come to nothing, or be too much in the other currency.
func TestReserveOfWhatDoesNotGo(t *testing.T) {
	for n := 1; n <= 4; n++ {
		fails(t, base(), long(9, 9, 5, n), api.ErrBad)
		fails(t, base(), long(9, 11, 1, n), api.ErrBad)
		fails(t, base(), long(13, 9, 150, n), api.ErrBad)
		fails(t, base(), long(13, 12, 160, n), api.ErrBad)
		fails(t, base(), long(9, 13, amount, n), api.ErrOverflow)
		fails(t, base(), long(11, 9, amount, n), api.ErrOverflow)
	}
}

func TestReserveOfMoreThanIsFree(t *testing.T) {
	for _, c := range []struct{ a, free int }{{9, 70}, {10, 53}, {11, 46}, {13, 8850}} {
		b := 23 - c.a
		for n := 1; n <= 4; n++ {
			fails(t, base(), long(c.a, b, c.free+1, n), api.ErrInsufficient)
			begins(t, base(), long(c.a, b, c.free, n))
		}
	}
	fails(t, base(), long(12, 9, 1, 2), api.ErrInsufficient)
	fails(t, base(), long(9, 10, amount, 2), api.ErrInsufficient)
}
