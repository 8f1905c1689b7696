package codec_test

import (
	"math"
	"slices"
	"testing"

	"hawala/api"
	"hawala/codec"
)

// P18.3: which states are read

func TestReadStateByNow(t *testing.T) {
	for _, n := range []int{0, 1, 63, 64, 1 << 20, ticks - 1, ticks} {
		reads(t, with(func(s *api.State) { s.Now = n }))
	}
	for _, n := range []int{-1, -2, -ticks, ticks + 1, 1 << 31, 1 << 32, math.MaxInt, math.MinInt} {
		refuses(t, with(func(s *api.State) { s.Now = n }))
	}
}

func TestReadStateByCounts(t *testing.T) {
	for _, n := range []int{0, 1, 8, 9, 10, 15, 16, 17, 63, 64, 65, 66, 128, 255, 256, 257, 300, 1000} {
		byCount(t, n, n >= 9 && n <= 64, func(s *api.State) { s.Accounts = accounts(n) })
		byCount(t, n, n <= 64, func(s *api.State) { s.Payments = repeated(n, s.Payments...) })
		byCount(t, n, n <= 16, func(s *api.State) { s.Sagas = repeated(n, s.Sagas...) })
		byCount(t, n, n <= 256, func(s *api.State) { s.Known = repeated(n, s.Known...) })
	}
}

func byCount(t *testing.T, n int, may bool, change func(s *api.State)) {
	t.Helper()
	if may {
		reads(t, with(change))
	} else {
		refuses(t, with(change))
	}
}

// countPlaces are where the counts stand among the numbers of a state.
func countPlaces(s api.State) []int {
	at := 1
	places := []int{}
	for _, n := range []int{3 * len(s.Accounts), 8 * len(s.Payments), 11 * len(s.Sagas), 10 * len(s.Known)} {
		places = append(places, at)
		at += 1 + n
	}
	return places
}

// Counts that are not those of what follows, however great or small.
func TestReadStateOfWrongCounts(t *testing.T) {
	empty := api.State{Accounts: accounts(9)}
	for _, s := range []api.State{base(), empty, with(func(s *api.State) { s.Sagas = nil }), with(func(s *api.State) { s.Known = nil })} {
		for _, place := range countPlaces(s) {
			ns := stateNumbers(s)
			was := ns[place]
			for _, n := range slices.Concat(anyInts, []int{was - 2, was - 1, was + 1, was + 2, -was, was + 1<<32, was - 1<<32, was + 1<<62, 6, 7, 10, 11, 12}) {
				if ns[place] = n; n != was {
					readsNone(t, inRow(ns...))
					agreeOnState(t, inRow(ns[:place+1]...))
				}
			}
		}
	}
}

// Of what ends at a count, only the last count may be, if it is 0.
func TestReadStateThatEndsAtACount(t *testing.T) {
	ns := stateNumbers(base())
	places := countPlaces(base())
	for k, place := range places {
		readsNone(t, inRow(ns[:place]...))
		readsNone(t, inRow(ns[:place+1]...))
		if s, ok := askState(t, append(inRow(ns[:place]...), 0)); ok != (k == len(places)-1) {
			t.Errorf("%d: %+v, %t", k, s, ok)
		}
	}
}

func TestReadStateByAccounts(t *testing.T) {
	account := func(k int, a api.Account) api.State {
		return with(func(s *api.State) { s.Accounts[k] = a })
	}
	for k := range 9 {
		for _, n := range []int{-balance, -balance + 1, -1, 0, 1, balance - 1, balance} {
			reads(t, account(k, api.Account{Cur: k / 3, Balance: n}))
		}
		for _, n := range []int{math.MinInt, -balance - 1, balance + 1, math.MaxInt} {
			refuses(t, account(k, api.Account{Cur: k / 3, Balance: n}))
		}
		for _, held := range []int{math.MinInt, -1, 1, 5, math.MaxInt} {
			refuses(t, account(k, api.Account{Cur: k / 3, Balance: 7, Held: held}))
		}
		for _, cur := range []int{math.MinInt, -1, k/3 - 1, k/3 + 1, 3, math.MaxInt} {
			refuses(t, account(k, api.Account{Cur: cur}))
		}
	}
	for k := 9; k < 12; k++ {
		for _, n := range []int{0, 1, 5, amount, balance} {
			reads(t, account(k, api.Account{Cur: 2, Balance: n}))
			reads(t, account(k, api.Account{Cur: 1, Balance: n, Held: n / 2}))
			reads(t, account(k, api.Account{Balance: n, Held: n}))
			refuses(t, account(k, api.Account{Balance: n, Held: n + 1}))
			refuses(t, account(k, api.Account{Balance: n, Held: -1}))
			refuses(t, account(k, api.Account{Cur: 3, Balance: n}))
			refuses(t, account(k, api.Account{Cur: -1, Balance: n}))
		}
		refuses(t, account(k, api.Account{Balance: -1}))
		refuses(t, account(k, api.Account{Balance: -1, Held: -1}))
		refuses(t, account(k, api.Account{Balance: balance + 1}))
		refuses(t, account(k, api.Account{Balance: math.MaxInt, Held: math.MaxInt}))
	}
}

func TestReadStateByPayments(t *testing.T) {
	p := base().Payments[1]
	payment := func(change func(p *api.Payment, n int), n int) api.State {
		return with(func(s *api.State) { s.Payments[1] = p; change(&s.Payments[1], n) })
	}
	for _, c := range []struct {
		change      func(p *api.Payment, n int)
		least, most int
	}{
		{func(p *api.Payment, n int) { p.From = n }, 0, 64},
		{func(p *api.Payment, n int) { p.To = n }, 0, 64},
		{func(p *api.Payment, n int) { p.Auth = n }, p.Captured, amount},
		{func(p *api.Payment, n int) { *p = api.Payment{Auth: n} }, 1, amount},
		{func(p *api.Payment, n int) { p.Captured = n }, p.Refunded + p.Charged, p.Auth},
		{func(p *api.Payment, n int) { p.Refunded = n }, 0, p.Captured - p.Charged},
		{func(p *api.Payment, n int) { p.Charged = n }, 0, p.Captured - p.Refunded},
		{func(p *api.Payment, n int) { p.Until = n }, 0, ticks},
		{func(p *api.Payment, n int) { p.Stage = api.Stage(n) }, 0, 1},
	} {
		for _, n := range []int{c.least, c.least + 1, c.most - 1, c.most} {
			reads(t, payment(c.change, n))
		}
		for _, n := range []int{math.MinInt, -c.least - 1, c.least - 2, c.least - 1, c.most + 1, c.most + 2, c.most + 1<<32, math.MaxInt} {
			refuses(t, payment(c.change, n))
		}
	}
	// The first one and the last one count as the others do.
	for k := range 64 {
		s := with(func(s *api.State) { s.Payments = repeated(64, p) })
		s.Payments[k].Auth = 0
		refuses(t, s)
	}
}

func TestReadStateBySagas(t *testing.T) {
	saga := func(g api.Saga) api.State {
		return with(func(s *api.State) { s.Sagas[1] = g })
	}
	read, not := 0, 0
	for legs := range 5 {
		for leg := -1; leg <= legs+1; leg++ {
			for tries := -1; tries <= 5; tries++ {
				for phase := -1; phase <= 3; phase++ {
					for _, why := range []int{-1, 0, 1, 9, 13, 14} {
						g := api.Saga{Request: long(7, legs), Phase: api.Phase(phase), Leg: leg, Tries: tries, Why: api.Errno(why)}
						if isSaga(g) {
							read++
							reads(t, saga(g))
						} else {
							not++
							refuses(t, saga(g))
						}
					}
				}
			}
		}
	}
	if read < 200 || not < 2000 {
		t.Errorf("%d are read and %d are not: too few", read, not)
	}
}

func TestReadStateByWhy(t *testing.T) {
	forward := func(n int) api.State {
		return with(func(s *api.State) { s.Sagas[0].Why = api.Errno(n) })
	}
	back := func(n int) api.State {
		return with(func(s *api.State) { s.Sagas[2].Why = api.Errno(n) })
	}
	reads(t, forward(0))
	for n := 1; n <= 13; n++ {
		reads(t, back(n))
		refuses(t, forward(n))
	}
	refuses(t, back(0))
	for _, n := range []int{math.MinInt, -13, -1, 14, 15, 13 + 1<<32, math.MaxInt} {
		refuses(t, back(n))
		refuses(t, forward(n))
	}
}

func TestReadStateByRequests(t *testing.T) {
	for _, r := range wrongRequests() {
		for k := range 3 {
			refuses(t, with(func(s *api.State) { s.Known[k].Request = r }))
			refuses(t, with(func(s *api.State) { s.Sagas[k].Request = r }))
			refuses(t, with(func(s *api.State) { s.Sagas[k] = api.Saga{Request: r, Phase: api.Back, Why: 1} }))
		}
	}
}

func TestReadStateByReplies(t *testing.T) {
	for k := range 3 {
		reply := func(err, id int) api.State {
			return with(func(s *api.State) { s.Known[k].Reply = api.Reply{Err: api.Errno(err), ID: id} })
		}
		for _, id := range anyInts {
			reads(t, reply(0, id))
			reads(t, reply(13, id))
			refuses(t, reply(-1, id))
			refuses(t, reply(14, id))
		}
		for err := range 14 {
			reads(t, reply(err, 0))
		}
		for _, err := range []int{math.MinInt, -13, 15, 1 << 32, math.MaxInt} {
			refuses(t, reply(err, 9))
		}
	}
}

func TestReadStateByTold(t *testing.T) {
	for k := range 3 {
		ns := stateNumbers(base())
		place := countPlaces(base())[3] + 10*(k+1)
		for _, n := range slices.Concat(anyInts, []int{1 << 32, 1 + 1<<32}) {
			ns[place] = n
			if n != 0 && n != 1 {
				readsNone(t, inRow(ns...))
			} else if s, ok := askState(t, inRow(ns...)); !ok || s.Known[k].Told != (n == 1) {
				t.Errorf("%d: %+v, %t", n, s, ok)
			}
		}
	}
}

func TestReadStateOfNoBytes(t *testing.T) {
	readsNone(t, nil)
	readsNone(t, []byte{})
	readsNone(t, make([]byte, 5))
	readsNone(t, codec.State(api.State{}))
	// What stands in the room behind a slice's length is not there.
	if s, ok := codec.ReadState(codec.State(base())[:0]); ok || !equal(s, api.State{}) {
		t.Errorf("%+v, %t", s, ok)
	}
}

func TestReadStateOfCutBytes(t *testing.T) {
	b := codec.State(base())
	for n := range b {
		readsNone(t, b[:n])
		readsNone(t, b[n+1:])
		agreeOnState(t, slices.Delete(slices.Clone(b), n, n+1))
	}
}

func TestReadStateWithBytesBehind(t *testing.T) {
	for _, s := range []api.State{base(), {Accounts: accounts(9)}} {
		b := codec.State(s)
		for c := range 256 {
			readsNone(t, append(slices.Clone(b), byte(c)))
		}
		for _, rest := range [][]byte{b, make([]byte, 10), make([]byte, 100), make([]byte, 1<<22)} {
			readsNone(t, slices.Concat(b, rest))
		}
	}
}

// Bytes are read as numbers in a row, so each of them may be wrong.
func TestReadStateOfWrongNumbers(t *testing.T) {
	ns := stateNumbers(base())
	for k := range ns {
		for _, wrong := range wrongNumbers {
			readsNone(t, slices.Concat(inRow(ns[:k]...), []byte(wrong), inRow(ns[k+1:]...)))
		}
		// The right number, but with an empty group behind it.
		long := number(ns[k])
		long[len(long)-1] += 128
		readsNone(t, slices.Concat(inRow(ns[:k]...), long, []byte{0}, inRow(ns[k+1:]...)))
	}
}

// Each number of a state is turned into any other one.
func TestReadStateOfAnyNumbers(t *testing.T) {
	read, not := 0, 0
	for _, s := range []api.State{base(), {Accounts: accounts(10), Known: base().Known}} {
		ns := stateNumbers(s)
		for k, was := range ns {
			for _, n := range slices.Concat(anyInts, []int{was - 1, was + 1}) {
				ns[k] = n
				if agreeOnState(t, inRow(ns...)) {
					read++
				} else {
					not++
				}
			}
			ns[k] = was
		}
	}
	if read < 1000 || not < 2000 {
		t.Errorf("%d are read and %d are not: too few", read, not)
	}
}

func TestReadStateOfTurnedBytes(t *testing.T) {
	b := codec.State(base())
	read, not := 0, 0
	for k := range b {
		for x := 1; x < 256; x++ {
			b[k] ^= byte(x)
			if agreeOnState(t, b) {
				read++
			} else {
				not++
			}
			b[k] ^= byte(x)
		}
	}
	if read < 5000 || not < 5000 {
		t.Errorf("%d are read and %d are not: too few", read, not)
	}
	reads(t, base())
}

func TestReadStateOfTwoBytesMore(t *testing.T) {
	b := codec.State(api.State{Accounts: accounts(10), Known: base().Known[:1], Now: 3})
	for k := range len(b) + 1 {
		for _, c := range []byte{0, 1, 2, 3, 20, 127, 128, 255} {
			for _, d := range []byte{0, 1, 2, 127, 128} {
				agreeOnState(t, slices.Insert(slices.Clone(b), k, c))
				agreeOnState(t, slices.Insert(slices.Clone(b), k, c, d))
			}
		}
	}
}
