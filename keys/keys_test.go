package keys_test

import (
	"errors"
	"math"
	"slices"
	"testing"

	"hawala/api"
	"hawala/keys"
)

const most = 256

// noKeys are the two ways to have no elements.
var noKeys = [][]api.Known{nil, {}}

// anyKeys are of all sizes: a key may be any int here.
var anyKeys = []int{0, 1, -1, 2, -2, 5, 1<<30 - 1, 1 << 30, math.MaxInt, math.MaxInt - 1, math.MinInt, math.MinInt + 1}

// replies are with an error and with none, with an ID and with none.
var replies = []api.Reply{{}, {ID: 9}, {Err: api.ErrBad}, {Err: api.ErrLeg, ID: 3}, {Err: api.ErrPending}, {Err: api.ErrKey, ID: 1}, {Err: -1, ID: -1}, {Err: math.MaxInt, ID: math.MinInt}}

// full has no field that is 0, so that one that goes missing is seen.
func full(key int) api.Request {
	return api.Request{Key: key, Op: api.OpTransfer, A: 9, B: 10, Amount: 30, Legs: 2, Until: 7}
}

// pending is an element that is not Told.
func pending(key int) api.Known { return api.Known{Request: full(key)} }

// told is one that is.
func told(key int, r api.Reply) api.Known {
	return api.Known{Request: full(key), Reply: r, Told: true}
}

// five are some of both, the keys not by their size.
func five() []api.Known {
	return []api.Known{pending(5), told(2, api.Reply{ID: 12}), pending(-8), told(7, api.Reply{Err: api.ErrLeg}), pending(3)}
}

// many are n that are not Told, of the keys 0 to n - 1.
func many(n int) []api.Known {
	ks := make([]api.Known, n)
	for k := range ks {
		ks[k] = pending(k)
	}
	return ks
}

// with is elements of their own and more behind them.
func with(ks []api.Known, more ...api.Known) []api.Known { return append(slices.Clone(ks), more...) }

// changed is elements of their own, one of them another.
func changed(ks []api.Known, at int, k api.Known) []api.Known {
	own := slices.Clone(ks)
	own[at] = k
	return own
}

// fields is how many a request has beside the Key.
const fields = 6

// other is a request that differs from r by n in one field, but not in the Key.
func other(r api.Request, field, n int) api.Request {
	switch field {
	case 0:
		r.Op += api.Op(n)
	case 1:
		r.A += n
	case 2:
		r.B += n
	case 3:
		r.Amount += n
	case 4:
		r.Legs += n
	case 5:
		r.Until += n
	}
	return r
}

// others are requests that differ from r in each single field, but not in the Key.
func others(r api.Request) []api.Request {
	rs := []api.Request{}
	for field := range fields {
		for _, n := range []int{1, -1, math.MinInt} {
			rs = append(rs, other(r, field, n))
		}
	}
	return rs
}

// answer is what Put and Tell return.
type answer struct {
	ks  []api.Known
	err error
}

func put(ks []api.Known, r api.Request) answer {
	after, err := keys.Put(ks, r)
	return answer{after, err}
}

func tell(ks []api.Known, key int, r api.Reply) answer {
	after, err := keys.Tell(ks, key, r)
	return answer{after, err}
}

func (a answer) is(t *testing.T, want []api.Known) {
	t.Helper()
	if a.err != nil || !slices.Equal(a.ks, want) {
		t.Errorf("%v, %v, not %v", a.ks, a.err, want)
	}
}

func (a answer) fails(t *testing.T, want api.Errno) {
	t.Helper()
	if len(a.ks) != 0 || !errors.Is(a.err, want) {
		t.Errorf("%v, %v, not %v", a.ks, a.err, want)
	}
}

func asks(t *testing.T, ks []api.Known, r api.Request, want api.Reply) {
	t.Helper()
	if got, ok := keys.Ask(ks, r); got != want || !ok {
		t.Errorf("Ask(%v, %v) = %v, %t, not %v", ks, r, got, ok, want)
	}
}

func asksInVain(t *testing.T, ks []api.Known, r api.Request) {
	t.Helper()
	if got, ok := keys.Ask(ks, r); got != (api.Reply{}) || ok {
		t.Errorf("Ask(%v, %v) = %v, %t", ks, r, got, ok)
	}
}

func finds(t *testing.T, ks []api.Known, key, want int) {
	t.Helper()
	if got := keys.Find(ks, key); got != want {
		t.Errorf("Find(%v, %d) = %d, not %d", ks, key, got, want)
	}
}

// P11.1: Find

func TestFind(t *testing.T) {
	for at, key := range []int{5, 2, -8, 7, 3} {
		finds(t, five(), key, at)
	}
	finds(t, []api.Known{pending(4)}, 4, 0)
	for _, n := range []int{255, 256, 257, 400} {
		for _, at := range []int{0, 1, n / 2, n - 2, n - 1} {
			finds(t, many(n), at, at)
		}
		finds(t, many(n), n, -1)
		finds(t, many(n), -1, -1)
	}
}

func TestFindOfNone(t *testing.T) {
	for _, key := range anyKeys {
		for _, ks := range noKeys {
			finds(t, ks, key, -1)
		}
		finds(t, []api.Known{pending(4), told(6, api.Reply{ID: key})}, key, -1)
	}
	for _, key := range []int{4, 6, -3, -5, -7, 8, 0, 1, math.MaxInt, math.MinInt} {
		finds(t, five(), key, -1)
	}
}

func TestFindAnyKey(t *testing.T) {
	for _, key := range anyKeys {
		for at := range 3 {
			ks := changed([]api.Known{pending(40), pending(41), pending(42)}, at, pending(key))
			finds(t, ks, key, at)
		}
	}
}

func TestFindFirstOfTwo(t *testing.T) {
	ks := []api.Known{pending(1), told(4, api.Reply{}), pending(2), pending(4), told(4, api.Reply{ID: 1})}
	finds(t, ks, 4, 1)
	finds(t, ks[2:], 4, 1)
	finds(t, ks[4:], 4, 0)
}

// Only the Key counts, not another field, and not what stands in a slice's room behind its length.
func TestFindByKeyAlone(t *testing.T) {
	ks := []api.Known{{Request: api.Request{Op: 4, A: 4, B: 4, Amount: 4, Legs: 4, Until: 4}, Reply: api.Reply{Err: 4, ID: 4}}}
	finds(t, ks, 4, -1)
	finds(t, ks, 0, 0)
	finds(t, five()[:3], 7, -1)
	finds(t, five()[:0], 5, -1)
}

// P11.1: Ask

func TestAskOfNone(t *testing.T) {
	for _, key := range anyKeys {
		for _, ks := range noKeys {
			asksInVain(t, ks, full(key))
			asksInVain(t, ks, api.Request{Key: key})
		}
		asksInVain(t, []api.Known{pending(4), told(6, api.Reply{ID: 3})}, full(key))
	}
	asksInVain(t, five()[:3], full(7))
	asksInVain(t, nil, api.Request{})
}

func TestAskPending(t *testing.T) {
	for _, key := range []int{5, -8, 3} {
		asks(t, five(), full(key), api.Reply{Err: api.ErrPending})
	}
	for _, key := range anyKeys {
		asks(t, []api.Known{pending(40), pending(key), pending(42)}, full(key), api.Reply{Err: api.ErrPending})
	}
}

// Only a Reply that was Told counts.
func TestAskPendingWithReply(t *testing.T) {
	for _, r := range replies {
		k := pending(4)
		k.Reply = r
		asks(t, []api.Known{k}, full(4), api.Reply{Err: api.ErrPending})
	}
}

func TestAskTold(t *testing.T) {
	for _, r := range replies {
		for _, key := range anyKeys {
			for at := range 3 {
				ks := changed([]api.Known{pending(40), told(41, api.Reply{ID: 41}), pending(42)}, at, told(key, r))
				asks(t, ks, full(key), r)
			}
		}
	}
	asks(t, []api.Known{{Told: true}}, api.Request{}, api.Reply{})
}

func TestAskAnotherRequest(t *testing.T) {
	for at, k := range five() {
		for _, r := range others(k.Request) {
			asks(t, five(), r, api.Reply{Err: api.ErrKey})
			asks(t, changed(five(), at, api.Known{Request: r}), k.Request, api.Reply{Err: api.ErrKey})
			asks(t, changed(five(), at, api.Known{Request: r, Reply: api.Reply{ID: 5}, Told: true}), k.Request, api.Reply{Err: api.ErrKey})
		}
		asks(t, five(), api.Request{Key: k.Request.Key}, api.Reply{Err: api.ErrKey})
	}
	for _, r := range others(full(4)) {
		for _, reply := range replies {
			asks(t, []api.Known{told(4, reply)}, r, api.Reply{Err: api.ErrKey})
			asks(t, []api.Known{{Request: full(4), Reply: reply}}, r, api.Reply{Err: api.ErrKey})
		}
	}
}

// The Key is a field too: with another one the request is not found.
func TestAskAnotherKey(t *testing.T) {
	for _, key := range []int{3, 5, -4, math.MaxInt, math.MinInt} {
		asksInVain(t, []api.Known{pending(4)}, full(key))
		asksInVain(t, []api.Known{told(4, api.Reply{ID: 1})}, full(key))
	}
}

func TestAskFirstOfTwo(t *testing.T) {
	another := api.Known{Request: api.Request{Key: 4}, Reply: api.Reply{ID: 8}, Told: true}
	for _, c := range []struct {
		first, second api.Known
		want          api.Reply
	}{
		{pending(4), told(4, api.Reply{ID: 9}), api.Reply{Err: api.ErrPending}},
		{told(4, api.Reply{ID: 9}), pending(4), api.Reply{ID: 9}},
		{told(4, api.Reply{ID: 9}), told(4, api.Reply{ID: 10}), api.Reply{ID: 9}},
		{another, told(4, api.Reply{ID: 9}), api.Reply{Err: api.ErrKey}},
		{another, pending(4), api.Reply{Err: api.ErrKey}},
		{told(4, api.Reply{ID: 9}), another, api.Reply{ID: 9}},
	} {
		asks(t, []api.Known{pending(1), c.first, pending(2), c.second}, full(4), c.want)
	}
}

// P11.2: Put

func TestPut(t *testing.T) {
	for _, key := range anyKeys {
		for _, ks := range noKeys {
			put(ks, full(key)).is(t, []api.Known{pending(key)})
			put(ks, api.Request{Key: key}).is(t, []api.Known{{Request: api.Request{Key: key}}})
		}
		if key != 2 && key != 5 {
			put(five(), full(key)).is(t, with(five(), pending(key)))
		}
	}
	for _, r := range others(full(4)) {
		put(five(), r).is(t, with(five(), api.Known{Request: r}))
	}
}

// What stands in a slice's room behind its length is not there, and not taken over.
func TestPutIntoRoom(t *testing.T) {
	ks := []api.Known{pending(1), told(4, api.Reply{Err: 7, ID: 9}), told(6, api.Reply{ID: 3})}
	put(ks[:1], full(4)).is(t, []api.Known{pending(1), pending(4)})
	put(ks[:0], full(6)).is(t, []api.Known{pending(6)})
}

func TestPutKnown(t *testing.T) {
	for _, k := range five() {
		put(five(), k.Request).fails(t, api.ErrKey)
		put(five(), api.Request{Key: k.Request.Key}).fails(t, api.ErrKey)
		for _, r := range others(k.Request) {
			put(five(), r).fails(t, api.ErrKey)
		}
	}
	for _, key := range anyKeys {
		put([]api.Known{pending(40), pending(key)}, full(key)).fails(t, api.ErrKey)
		put([]api.Known{told(key, api.Reply{}), pending(40)}, full(key)).fails(t, api.ErrKey)
	}
	put([]api.Known{pending(4), pending(4)}, full(4)).fails(t, api.ErrKey)
}

func TestPutToTheLimit(t *testing.T) {
	if api.MaxKeys != most {
		t.Fatal(api.MaxKeys)
	}
	ks := []api.Known{}
	for key := range most {
		got := put(ks, full(key))
		got.is(t, with(ks, pending(key)))
		ks = got.ks
	}
	if !slices.Equal(ks, many(most)) {
		t.Error("256 elements are not those that were put")
	}
	put(ks, full(most)).fails(t, api.ErrLimit)
}

func TestPutAtTheLimit(t *testing.T) {
	for _, key := range []int{-1, 400, math.MaxInt, math.MinInt} {
		put(many(most-1), full(key)).is(t, with(many(most-1), pending(key)))
		for _, n := range []int{most, most + 1, 400} {
			put(many(n), full(key)).fails(t, api.ErrLimit)
		}
	}
}

// W4: ErrKey is named first.
func TestPutKnownAtTheLimit(t *testing.T) {
	for _, n := range []int{most - 1, most, most + 1, 400} {
		for _, key := range []int{0, 1, n / 2, n - 1} {
			put(many(n), full(key)).fails(t, api.ErrKey)
			put(many(n), api.Request{Key: key}).fails(t, api.ErrKey)
		}
	}
}

// P11.2: Tell

func TestTell(t *testing.T) {
	for _, r := range replies {
		for at, k := range five() {
			if !k.Told {
				tell(five(), k.Request.Key, r).is(t, changed(five(), at, told(k.Request.Key, r)))
			}
		}
		for _, key := range anyKeys {
			tell([]api.Known{pending(40), pending(key), pending(42)}, key, r).is(t, []api.Known{pending(40), told(key, r), pending(42)})
		}
		for _, n := range []int{1, most, most + 1} {
			for _, key := range []int{0, n / 2, n - 1} {
				tell(many(n), key, r).is(t, changed(many(n), key, told(key, r)))
			}
		}
	}
}

// A Reply that was not Told is replaced whole.
func TestTellOverReply(t *testing.T) {
	for _, before := range replies {
		for _, r := range replies {
			k := pending(4)
			k.Reply = before
			tell([]api.Known{k}, 4, r).is(t, []api.Known{told(4, r)})
		}
	}
}

func TestTellUnknown(t *testing.T) {
	for _, key := range anyKeys {
		for _, ks := range noKeys {
			tell(ks, key, api.Reply{}).fails(t, api.ErrUnknown)
			tell(ks, key, api.Reply{ID: 4}).fails(t, api.ErrUnknown)
		}
		tell([]api.Known{pending(40), told(41, api.Reply{})}, key, api.Reply{ID: 4}).fails(t, api.ErrUnknown)
	}
	tell(five()[:3], 7, api.Reply{}).fails(t, api.ErrUnknown)
	tell(five()[:2], -8, api.Reply{}).fails(t, api.ErrUnknown)
}

func TestTellTold(t *testing.T) {
	for _, before := range replies {
		for _, r := range replies {
			for at := range 3 {
				ks := changed([]api.Known{pending(40), pending(41), pending(42)}, at, told(4, before))
				tell(ks, 4, r).fails(t, api.ErrState)
			}
		}
	}
	tell(five(), 2, api.Reply{ID: 12}).fails(t, api.ErrState)
	tell(five(), 7, api.Reply{}).fails(t, api.ErrState)
}

func TestTellFirstOfTwo(t *testing.T) {
	r := api.Reply{ID: 9}
	tell([]api.Known{pending(1), pending(4), pending(4)}, 4, r).is(t, []api.Known{pending(1), told(4, r), pending(4)})
	tell([]api.Known{pending(4), told(4, api.Reply{ID: 1})}, 4, r).is(t, []api.Known{told(4, r), told(4, api.Reply{ID: 1})})
	tell([]api.Known{told(4, r), pending(4)}, 4, r).fails(t, api.ErrState)
}

// P11.2: Open

func TestOpen(t *testing.T) {
	for _, c := range []struct {
		ks   []api.Known
		want []int
	}{
		{nil, nil},
		{[]api.Known{}, nil},
		{five(), []int{5, -8, 3}},
		{five()[1:], []int{-8, 3}},
		{five()[:2], []int{5}},
		{five()[1:2], nil},
		{five()[:0], nil},
		{[]api.Known{told(1, api.Reply{}), told(2, api.Reply{ID: 4}), told(3, api.Reply{Err: api.ErrPending})}, nil},
		{[]api.Known{{Request: full(4), Reply: api.Reply{Err: api.ErrBad, ID: 5}}}, []int{4}},
		{[]api.Known{pending(9), pending(math.MinInt), pending(math.MaxInt), pending(0), pending(-1)}, []int{9, math.MinInt, math.MaxInt, 0, -1}},
		{[]api.Known{pending(4), told(4, api.Reply{}), pending(1), pending(4)}, []int{4, 1, 4}},
		{[]api.Known{told(4, api.Reply{}), pending(4)}, []int{4}},
		{make([]api.Known, 2), []int{0, 0}},
	} {
		if got := keys.Open(c.ks); !slices.Equal(got, c.want) {
			t.Errorf("Open(%v) = %v, not %v", c.ks, got, c.want)
		}
	}
	for _, n := range []int{255, 256, 257, 400} {
		got := keys.Open(many(n))
		if len(got) != n || got[0] != 0 || got[n-1] != n-1 || !slices.IsSorted(got) {
			t.Errorf("Open(%d elements) = %v", n, got)
		}
	}
}

// The chapter's example.
func TestExample(t *testing.T) {
	r := full(1)
	after := put(nil, r)
	asks(t, after.ks, r, api.Reply{Err: api.ErrPending})
	after = tell(after.ks, 1, api.Reply{ID: 9})
	asks(t, after.ks, r, api.Reply{ID: 9})
	after = put(after.ks, full(2))
	asks(t, after.ks, r, api.Reply{ID: 9})
	asks(t, after.ks, full(2), api.Reply{Err: api.ErrPending})
}

// calls are all functions, where they succeed and where they fail.
func calls() []func([]api.Known) answer {
	return []func([]api.Known) answer{
		func(ks []api.Known) answer { return put(ks, full(4)) },
		func(ks []api.Known) answer { return put(ks, full(5)) },
		func(ks []api.Known) answer { return put(ks, api.Request{Key: 5}) },
		func(ks []api.Known) answer { return tell(ks, 5, api.Reply{Err: 1, ID: 2}) },
		func(ks []api.Known) answer { return tell(ks, -8, api.Reply{}) },
		func(ks []api.Known) answer { return tell(ks, 2, api.Reply{Err: 1}) },
		func(ks []api.Known) answer { return tell(ks, 4, api.Reply{Err: 1}) },
		func(ks []api.Known) answer { keys.Find(ks, 7); return answer{} },
		func(ks []api.Known) answer { keys.Ask(ks, full(5)); return answer{} },
		func(ks []api.Known) answer { keys.Ask(ks, api.Request{Key: 2}); return answer{} },
		func(ks []api.Known) answer { keys.Open(ks); return answer{} },
	}
}

// crowd is a full list that begins with the five.
func crowd() []api.Known {
	ks := five()
	for key := 1000; len(ks) < most; key++ {
		ks = append(ks, pending(key))
	}
	return ks
}

// W6: no function changes what it is given, nor the room behind it.
func TestArgumentsStay(t *testing.T) {
	for k, call := range calls() {
		for n := range 6 {
			ks := five()
			call(ks[:n])
			if !slices.Equal(ks, five()) {
				t.Errorf("call %d of %d elements: %v", k, n, ks)
			}
		}
		for _, n := range []int{most - 1, most} {
			ks := crowd()
			call(ks[:n])
			if !slices.Equal(ks, crowd()) {
				t.Errorf("call %d of %d elements changes them", k, n)
			}
		}
	}
}

// W6: what comes back changes apart from the arguments, and from what another call gives.
func TestResultsAreApart(t *testing.T) {
	strange := api.Known{Request: api.Request{Key: 77, Op: 77}, Reply: api.Reply{Err: 7, ID: 7}, Told: true}
	for k, call := range calls() {
		for n := range 6 {
			ks := five()
			first, second := call(ks[:n]), call(ks[:n])
			before := slices.Clone(second.ks)
			for j := range first.ks {
				first.ks[j] = strange
			}
			_ = append(first.ks, strange)
			if !slices.Equal(ks, five()) || !slices.Equal(second.ks, before) {
				t.Errorf("call %d of %d elements: %v, %v", k, n, ks, second.ks)
			}
		}
	}
}

// W6: nor does a result change when what was given changes behind the call.
func TestResultsStay(t *testing.T) {
	for k, call := range calls() {
		for n := range 6 {
			ks := five()
			got := call(ks[:n])
			before := slices.Clone(got.ks)
			clear(ks)
			if !slices.Equal(got.ks, before) {
				t.Errorf("call %d of %d elements: %v, not %v", k, n, got.ks, before)
			}
		}
	}
}

// Two that go on from the same elements do not come into each other's way.
func TestTwoPutsFromOne(t *testing.T) {
	from := put(many(5), full(20)).ks
	one := put(from, full(21))
	two := put(from, full(22))
	three := tell(one.ks, 20, api.Reply{ID: 1})
	one.is(t, with(many(5), pending(20), pending(21)))
	two.is(t, with(many(5), pending(20), pending(22)))
	three.is(t, with(many(5), told(20, api.Reply{ID: 1}), pending(21)))
}

func TestOpenIsApart(t *testing.T) {
	ks := five()
	first, second := keys.Open(ks), keys.Open(ks)
	for k := range first {
		first[k] = 77
	}
	_ = append(first, 77)
	if !slices.Equal(second, []int{5, -8, 3}) || !slices.Equal(ks, five()) {
		t.Error(second, ks)
	}
}

// Drawn inputs against a plain second reading of the chapter.

type draw uint64

func (s *draw) below(n int) int {
	*s = *s*6364136223846793005 + 1442695040888963407
	return int(uint64(*s)>>33) % n
}

func (s *draw) of(ns ...int) int { return ns[s.below(len(ns))] }

// request is one of few, so that it is often known, or differs in little from one that is.
func (s *draw) request(below int) api.Request {
	r := full(s.below(below))
	if s.below(2) == 0 {
		r = other(r, s.below(fields), 1)
	}
	return r
}

func (s *draw) reply() api.Reply { return replies[s.below(len(replies))] }

// known are some elements, now and then as many as there may be, of keys below a number that is drawn too; a key may stand there twice.
func (s *draw) known() ([]api.Known, int) {
	n := s.of(s.below(4), s.below(12), most-1+s.below(3))
	below := s.of(6, 20, 600)
	ks := make([]api.Known, n, n+s.below(3))
	for k := range ks {
		ks[k] = api.Known{Request: s.request(below)}
		if s.below(2) == 0 {
			ks[k].Reply, ks[k].Told = s.reply(), true
		}
	}
	return ks, below
}

// foundByReading goes from the end, so that what it has at last is the first one.
func foundByReading(ks []api.Known, key int) int {
	found := -1
	for k := len(ks) - 1; k >= 0; k-- {
		if ks[k].Request.Key == key {
			found = k
		}
	}
	return found
}

func askedByReading(ks []api.Known, r api.Request) (api.Reply, bool) {
	at := foundByReading(ks, r.Key)
	switch {
	case at == -1:
		return api.Reply{}, false
	case ks[at].Request != r:
		return api.Reply{Err: api.ErrKey}, true
	case !ks[at].Told:
		return api.Reply{Err: api.ErrPending}, true
	}
	return ks[at].Reply, true
}

func putByReading(ks []api.Known, r api.Request) ([]api.Known, api.Errno) {
	switch {
	case foundByReading(ks, r.Key) != -1:
		return nil, api.ErrKey
	case len(ks) >= most:
		return nil, api.ErrLimit
	}
	return with(ks, api.Known{Request: r}), 0
}

func toldByReading(ks []api.Known, key int, r api.Reply) ([]api.Known, api.Errno) {
	at := foundByReading(ks, key)
	switch {
	case at == -1:
		return nil, api.ErrUnknown
	case ks[at].Told:
		return nil, api.ErrState
	}
	return changed(ks, at, api.Known{Request: ks[at].Request, Reply: r, Told: true}), 0
}

func openByReading(ks []api.Known) []int {
	left := slices.DeleteFunc(slices.Clone(ks), func(k api.Known) bool { return k.Told })
	open := make([]int, len(left))
	for k := range left {
		open[k] = left[k].Request.Key
	}
	return open
}

// seen counts how often each error was the answer.
type seen [api.ErrArgument + 1]int

func (s *seen) agree(t *testing.T, got answer, want []api.Known, wrong api.Errno) {
	t.Helper()
	if !slices.Equal(got.ks, want) || api.Number(got.err) != wrong || (got.err == nil) != (wrong == 0) {
		t.Fatalf("%v, %v, not %v, %v", got.ks, got.err, want, wrong)
	}
	s[wrong]++
}

func (s *seen) enough(t *testing.T, wrongs ...api.Errno) {
	t.Helper()
	for _, e := range wrongs {
		if s[e] < 200 {
			t.Errorf("%d calls end with %d: too few", s[e], e)
		}
	}
}

func TestDrawnLookups(t *testing.T) {
	s, ends, inVain := draw(11), seen{}, 0
	for range 30000 {
		ks, below := s.known()
		r := s.request(below)
		finds(t, ks, r.Key, foundByReading(ks, r.Key))
		want, ok := askedByReading(ks, r)
		if !ok {
			asksInVain(t, ks, r)
			inVain++
			continue
		}
		asks(t, ks, r, want)
		if 0 <= want.Err && want.Err <= api.ErrArgument {
			ends[want.Err]++
		}
	}
	ends.enough(t, 0, api.ErrKey, api.ErrPending, api.ErrBad)
	if inVain < 200 {
		t.Error(inVain)
	}
}

func TestDrawnChanges(t *testing.T) {
	s, puts, tells := draw(12), seen{}, seen{}
	for range 30000 {
		ks, below := s.known()
		r, reply := s.request(below), s.reply()
		before := slices.Clone(ks)
		want, wrong := putByReading(ks, r)
		puts.agree(t, put(ks, r), want, wrong)
		want, wrong = toldByReading(ks, r.Key, reply)
		tells.agree(t, tell(ks, r.Key, reply), want, wrong)
		if got := keys.Open(ks); !slices.Equal(got, openByReading(before)) || !slices.Equal(ks, before) {
			t.Fatalf("Open(%v) = %v, of %v", before, got, ks)
		}
	}
	puts.enough(t, 0, api.ErrKey, api.ErrLimit)
	tells.enough(t, 0, api.ErrUnknown, api.ErrState)
}

// T4: whatever is put and told, a request that was told goes on being answered so, and what was never put is not known.
func TestDrawnHistories(t *testing.T) {
	s := draw(13)
	for range 100 {
		ks := []api.Known{}
		var requests [most + 44]api.Request
		var replied [most + 44]api.Reply
		var state [most + 44]int // 0: not known, 1: put, 2: told
		for range 700 {
			r, reply := s.request(len(state)), s.reply()
			if s.below(3) > 0 {
				if after, err := keys.Put(ks, r); err == nil {
					ks, requests[r.Key], state[r.Key] = after, r, 1
				}
			} else if after, err := keys.Tell(ks, r.Key, reply); err == nil {
				ks, replied[r.Key], state[r.Key] = after, reply, state[r.Key]+1
			}
		}
		for key, n := range state {
			switch n {
			case 0:
				asksInVain(t, ks, full(key))
			case 1:
				asks(t, ks, requests[key], api.Reply{Err: api.ErrPending})
			case 2:
				asks(t, ks, requests[key], replied[key])
			default:
				t.Fatalf("key %d was told %d times", key, n-1)
			}
		}
	}
}
