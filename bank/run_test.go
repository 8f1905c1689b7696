package bank_test

import (
	"slices"
	"testing"

	"hawala/api"
	"hawala/bank"
	"hawala/ops"
)

// runs asks Run, twice: the answers are the same, what is given is not touched, and the one answer has nothing of the other's, or of what was given.
func runs(t *testing.T, s api.State, rs []api.Request, legs []bool) (api.State, []api.Reply) {
	t.Helper()
	given, asked := roomy(s), room(rs, markRequest)
	ls := append(slices.Clone(legs), false, true)[:len(legs)]
	after, replies := bank.Run(given, asked, ls)
	other, replies2 := bank.Run(given, asked, ls)
	if !slices.Equal(replies, replies2) || !equal(after, other) {
		t.Errorf("%+v, %v: %+v, and then %+v", rs, legs, replies, replies2)
	}
	own, ownReplies := clone(after), slices.Clone(replies)
	// What is unchanged may be what was given itself.
	if !equal(after, s) {
		scribble(other)
	}
	over(replies2, api.Reply{Err: 69})
	if !equal(after, own) || !slices.Equal(replies, ownReplies) || !isUntouched(given, s) || !isLeft(asked, rs, markRequest) ||
		!slices.Equal(ls[:len(legs)+2], append(slices.Clone(legs), false, true)) {
		t.Errorf("%+v, %v: what is given is changed, or memory is shared", rs, legs)
	}
	return own, ownReplies
}

// comesTo asks for the replies, and the state.
func comesTo(t *testing.T, s api.State, rs []api.Request, legs []bool, replies []api.Reply, want api.State) {
	t.Helper()
	after, got := runs(t, s, rs, legs)
	if !slices.Equal(got, replies) || !equal(after, want) {
		t.Errorf("%+v, %v: %+v, not %+v\n%+v, not\n%+v", rs, legs, got, replies, after, want)
	}
}

// numbered are requests with the keys 100, 101 and so on.
func numbered(rs ...api.Request) []api.Request {
	for k := range rs {
		rs[k].Key = 100 + k
	}
	return rs
}

// toldAll is a state that knows more requests, with their replies.
func toldAll(s api.State, rs []api.Request, replies []api.Reply) api.State {
	for k, r := range rs {
		s = told(s, r, replies[k])
	}
	return s
}

// P16.2

func TestRunOfNoRequests(t *testing.T) {
	for _, s := range append(states(), api.State{}) {
		for _, legs := range [][]bool{nil, {}, {false}, {true, false}} {
			comesTo(t, s, nil, legs, nil, s)
			comesTo(t, s, []api.Request{}, legs, nil, s)
		}
	}
}

func TestRunOfOne(t *testing.T) {
	rs := append(asks(), long(9, 10, 30, 2), long(9, 10, 71, 1), long(8, 10, 3, 1), opened(), pending(), refused(), api.Request{Key: -1}, api.Request{Key: 5}, void(9))
	for _, r := range rs {
		for _, legs := range [][]bool{nil, says("yy"), says("nnnn"), says("ynnny")} {
			a := ask(t, base(), r, legs)
			comesTo(t, base(), []api.Request{r}, legs, []api.Reply{a.reply}, a.s)
		}
	}
}

// Each one stands on what the ones before it made.
func TestRunInOrder(t *testing.T) {
	rs := numbered(open(2), deposit(15, 70), auth(15, 13, 30, 90), transfer(15, 14, 41), transfer(15, 14, 40), capture(2, 20), void(2), refund(2, 5), charge(2, 15), open(0))
	replies := []api.Reply{{ID: 15}, {}, {ID: 2}, {Err: api.ErrInsufficient}, {}, {}, {}, {}, {}, {ID: 16}}
	want := base()
	want.Accounts = append(want.Accounts, api.Account{Cur: 2, Balance: 30}, api.Account{})
	want.Accounts[6].Balance -= 70
	want.Accounts[14].Balance += 40
	want.Payments = append(want.Payments, api.Payment{From: 15, To: 13, Auth: 30, Captured: 20, Refunded: 5, Charged: 15, Until: 90, Stage: api.Closed})
	comesTo(t, base(), rs, nil, replies, toldAll(want, rs, replies))
	// In another order they come to something else.
	slices.Reverse(rs)
	_, got := runs(t, base(), rs, nil)
	want2 := []api.Reply{{ID: 15}, {Err: 2}, {Err: 2}, {Err: 2}, {Err: 2}, {Err: 3}, {Err: 3}, {Err: 3}, {}, {ID: 16}}
	if !slices.Equal(got, want2) {
		t.Errorf("%+v, not %+v", got, want2)
	}
}

// Each one has the answers that those before it left.
func TestRunWithTheAnswersThatAreLeft(t *testing.T) {
	rs := numbered(long(9, 10, 1, 2), long(9, 10, 2, 1), long(9, 10, 4, 3))
	ok, no := api.Reply{}, api.Reply{Err: api.ErrLeg}
	for _, c := range []struct {
		legs    string
		replies []api.Reply
	}{
		{"", []api.Reply{ok, ok, ok}},
		{"nnnn", []api.Reply{no, ok, ok}},
		{"yynnnn", []api.Reply{ok, no, ok}},
		{"yyynnnn", []api.Reply{ok, ok, no}},
		{"nnnnnnnn", []api.Reply{no, no, ok}},
		{"nnnnynnnn", []api.Reply{no, ok, no}},
		{"ynnnnnnnn", []api.Reply{no, no, ok}},
		{"ynnnnnnnnynnnn", []api.Reply{no, no, no}},
		{"nnnnnnnnnnnn", []api.Reply{no, no, no}},
		{"nnnnnnnnnnn", []api.Reply{no, no, ok}},
		// Those are used up in the midst of one.
		{"ynnn", []api.Reply{ok, ok, ok}},
		{"y", []api.Reply{ok, ok, ok}},
		{"yynnn", []api.Reply{ok, ok, ok}},
		{"nnnynnnynnn", []api.Reply{ok, ok, ok}},
		{"nnnynnnynnnyynnnn", []api.Reply{ok, ok, no}},
		{"nnnynnnynnnyyynnn", []api.Reply{ok, ok, ok}},
		{"nnnynnnynnnynnnn", []api.Reply{ok, ok, no}},
		// More than are asked for.
		{"yyyyyynnnnnnnn", []api.Reply{ok, ok, ok}},
	} {
		want := base()
		for k, reply := range c.replies {
			if reply == ok {
				want = moved(want, 9, -rs[k].Amount, 10, rs[k].Amount)
			}
		}
		comesTo(t, base(), rs, says(c.legs), c.replies, toldAll(want, rs, c.replies))
	}
}

// What asks no leg leaves the answers to those behind it.
func TestRunOfThoseThatUseNone(t *testing.T) {
	none := append(numbered(asks()...), opened(), pending(), refused(), api.Request{Key: -1}, api.Request{Key: 4, Op: api.OpVoid},
		api.Request{Key: 150, Op: api.OpTransfer, A: 9, B: 10, Amount: 300, Legs: 4}, api.Request{Key: 151, Op: api.OpTransfer, A: 8, B: 10, Amount: 3, Legs: 4}, api.Request{Key: 152, Op: api.OpTransfer, A: 9, B: 11, Amount: 1, Legs: 4})
	for _, r := range none {
		last := long(9, 10, 3, 2)
		for legs, want := range map[string]api.Errno{"ynnnn": api.ErrLeg, "ynnn": 0, "nnnn": api.ErrLeg, "nnnynnny": 0} {
			_, replies := runs(t, base(), []api.Request{r, last}, says(legs))
			if len(replies) != 2 || replies[1] != (api.Reply{Err: want}) {
				t.Errorf("%+v, %s: %+v", r, legs, replies)
			}
		}
	}
	// Of one that can't be settled the answers are used all the same.
	rs := numbered(long(9, 10, 6, 2), long(9, 10, 5, 1))
	ok, over, no := api.Reply{}, api.Reply{Err: api.ErrOverflow}, api.Reply{Err: api.ErrLeg}
	s := nearlyFull()
	done := moved(s, 9, -5, 10, 5)
	comesTo(t, s, rs, says("yynnnn"), []api.Reply{over, no}, toldAll(s, rs, []api.Reply{over, no}))
	comesTo(t, s, rs, says("yynnny"), []api.Reply{over, ok}, toldAll(done, rs, []api.Reply{over, ok}))
	comesTo(t, s, rs, says("nnnn"), []api.Reply{no, ok}, toldAll(done, rs, []api.Reply{no, ok}))
}

// The same request twice: it is told again, and uses no answers.
func TestRunOfTheSameRequestTwice(t *testing.T) {
	for _, r := range append(asks(), transfer(9, 10, 71), void(1), long(9, 10, 3, 1), long(9, 10, 71, 1)) {
		a := ask(t, base(), r, nil)
		comesTo(t, base(), []api.Request{r, r}, nil, []api.Reply{a.reply, a.reply}, a.s)
		comesTo(t, base(), []api.Request{r, r, r}, nil, []api.Reply{a.reply, a.reply, a.reply}, a.s)
	}
	r, last := long(9, 10, 3, 1), api.Request{Key: 40, Op: api.OpTransfer, A: 9, B: 10, Amount: 8, Legs: 1}
	no := api.Reply{Err: api.ErrLeg}
	comesTo(t, base(), []api.Request{r, r, last}, says("nnnnyy"), []api.Reply{no, no, {}}, told(told(moved(base(), 9, -8, 10, 8), r, no), last, api.Reply{}))
	comesTo(t, base(), []api.Request{r, r, last, r}, says("ynnnn"), []api.Reply{{}, {}, no, {}}, told(told(moved(base(), 9, -3, 10, 3), r, api.Reply{}), last, no))
	for _, r := range notValid() {
		bad := api.Reply{Err: api.ErrBad}
		comesTo(t, base(), []api.Request{r, r}, nil, []api.Reply{bad, bad}, base())
	}
}

// One key with two requests: the second one is told so, and the first one's reply stays.
func TestRunOfOneKeyWithTwoRequests(t *testing.T) {
	for _, r := range append(asks(), transfer(9, 10, 71), long(9, 10, 3, 1), long(9, 10, 71, 1)) {
		a := ask(t, base(), r, nil)
		for _, other := range others(r) {
			comesTo(t, base(), []api.Request{r, other, r}, nil, []api.Reply{a.reply, {Err: api.ErrKey}, a.reply}, a.s)
			b := ask(t, base(), other, nil)
			comesTo(t, base(), []api.Request{other, r, other}, nil, []api.Reply{b.reply, {Err: api.ErrKey}, b.reply}, b.s)
		}
	}
}

// Behind the last key there is none more; those that are known are told all the same.
func TestRunUpToTheMostKeys(t *testing.T) {
	rs := []api.Request{}
	want := []api.Reply{}
	for k := range 300 {
		rs = append(rs, api.Request{Key: k, Op: api.OpOpen, A: k % 3})
		// First there are no more accounts, and from 256 on no more keys.
		if k < 55 {
			want = append(want, api.Reply{ID: 9 + k})
		} else {
			want = append(want, api.Reply{Err: api.ErrLimit})
		}
	}
	s, got := runs(t, ops.New(), rs, nil)
	if !slices.Equal(got, want) || len(s.Accounts) != 64 || len(s.Known) != 256 {
		t.Errorf("%d accounts, %d keys: %+v", len(s.Accounts), len(s.Known), got)
	}
	for k, known := range s.Known {
		if known != (api.Known{Request: rs[k], Reply: want[k], Told: true}) {
			t.Errorf("%+v", known)
		}
	}
	comesTo(t, s, rs, says("nnnn"), want, s)
	rs[0].A = 2
	want[0] = api.Reply{Err: api.ErrKey}
	comesTo(t, s, rs, nil, want, s)
}

// In parts it comes to the same as in one, if no answers are missing.
func TestRunInParts(t *testing.T) {
	rs := numbered(append(asks(), long(9, 10, 3, 1), long(9, 10, 71, 1), open(0), deposit(15, 3))...)
	whole, replies := runs(t, base(), rs, nil)
	for k := range rs {
		s, first := runs(t, base(), rs[:k], nil)
		s, second := runs(t, s, rs[k:], nil)
		if !equal(s, whole) || !slices.Equal(append(first, second...), replies) {
			t.Errorf("%d: %+v %+v", k, first, second)
		}
	}
}
