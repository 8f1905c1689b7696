package request_test

import (
	"bytes"
	"math"
	"slices"
	"testing"

	"hawala/api"
	"hawala/request"
)

const (
	amount = 1 << 40
	ticks  = 1 << 30
)

// ops are all that there are, in their order.
var ops = []api.Op{api.OpOpen, api.OpDeposit, api.OpTransfer, api.OpAuth, api.OpCapture, api.OpVoid, api.OpRefund, api.OpCharge}

// withAmount are those for which the Amount counts.
var withAmount = []api.Op{api.OpDeposit, api.OpTransfer, api.OpAuth, api.OpCapture, api.OpRefund, api.OpCharge}

// notOps are numbers beside those of the Ops.
var notOps = []api.Op{-1, -2, 8, 9, 64, math.MaxInt, math.MinInt}

// anyNumbers are of all sizes, below 0 too.
var anyNumbers = []int{0, 1, -1, 2, 3, -7, 9, 63, 64, -64, -65, 300, ticks, ticks + 1, amount, amount + 1, -amount, math.MaxInt, math.MinInt}

// plain is a valid request of an Op.
func plain(op api.Op) api.Request {
	return api.Request{Key: 3, Op: op, A: 1, B: 12, Amount: 5, Until: 9}
}

// samples are valid requests of all Ops, small ones and the greatest ones.
func samples() []api.Request {
	rs := []api.Request{}
	for _, op := range ops {
		rs = append(rs, plain(op), api.Request{Op: op, Amount: 1}, api.Request{Key: 1<<30 - 1, Op: op, A: 2, B: -1, Amount: amount, Until: ticks})
		if op != api.OpOpen {
			rs = append(rs, api.Request{Key: 70, Op: op, A: math.MinInt, B: math.MaxInt, Amount: 64})
		}
	}
	for legs := range 5 {
		r := plain(api.OpTransfer)
		r.Legs = legs
		rs = append(rs, r)
	}
	return append(rs, api.Request{Op: api.OpVoid}, api.Request{Op: api.OpVoid, A: -9, B: -9, Amount: -9})
}

// wrongs are requests that are not valid, each by one thing only.
func wrongs() []api.Request {
	rs := []api.Request{}
	for _, r := range samples() {
		for _, n := range []int{-1, 1 << 30, math.MaxInt, math.MinInt} {
			x := r
			x.Key = n
			rs = append(rs, x)
		}
		for _, n := range []int{-1, 5, math.MaxInt, math.MinInt} {
			x := r
			x.Legs = n
			rs = append(rs, x)
		}
		for _, n := range []int{-1, ticks + 1, math.MaxInt, math.MinInt} {
			x := r
			x.Until = n
			rs = append(rs, x)
		}
		for _, op := range notOps {
			x := r
			x.Op, x.Legs = op, 0
			rs = append(rs, x)
		}
	}
	for _, n := range []int{-1, 3, math.MaxInt, math.MinInt} {
		r := plain(api.OpOpen)
		r.A = n
		rs = append(rs, r)
	}
	for _, op := range withAmount {
		for _, n := range []int{0, -1, amount + 1, math.MaxInt, math.MinInt} {
			r := plain(op)
			r.Amount = n
			rs = append(rs, r)
		}
	}
	return rs
}

func may(t *testing.T, r api.Request, want bool) {
	t.Helper()
	if request.May(r) != want {
		t.Errorf("May(%+v) is %t", r, !want)
	}
}

// P10.1: May and Long

func TestMay(t *testing.T) {
	for _, r := range samples() {
		may(t, r, true)
	}
	for _, r := range wrongs() {
		may(t, r, false)
	}
}

func TestMayByKey(t *testing.T) {
	for _, op := range ops {
		r := plain(op)
		for _, n := range []int{0, 1, 256, 257, 1<<30 - 2, 1<<30 - 1} {
			r.Key = n
			may(t, r, true)
		}
		for _, n := range []int{-1, -2, 1 << 30, 1<<30 + 1, 1 << 32, math.MaxInt, math.MinInt} {
			r.Key = n
			may(t, r, false)
		}
	}
}

func TestMayByLegs(t *testing.T) {
	for _, op := range ops {
		r := plain(op)
		may(t, r, true)
		for _, n := range []int{1, 2, 3, 4} {
			r.Legs = n
			may(t, r, op == api.OpTransfer)
		}
		for _, n := range []int{-1, -4, 5, 6, 1 << 32, math.MaxInt, math.MinInt} {
			r.Legs = n
			may(t, r, false)
		}
	}
}

func TestMayByUntil(t *testing.T) {
	for _, op := range ops {
		r := plain(op)
		for _, n := range []int{0, 1, 1000, ticks - 1, ticks} {
			r.Until = n
			may(t, r, true)
		}
		for _, n := range []int{-1, -2, ticks + 1, 1 << 32, math.MaxInt, math.MinInt} {
			r.Until = n
			may(t, r, false)
		}
	}
}

func TestMayByOp(t *testing.T) {
	for n := range 8 {
		may(t, plain(api.Op(n)), true)
	}
	for _, op := range notOps {
		may(t, plain(op), false)
		may(t, api.Request{Op: op}, false)
	}
}

func TestMayOfOpen(t *testing.T) {
	r := plain(api.OpOpen)
	for _, n := range anyNumbers {
		r.B, r.Amount = n, -n
		for _, cur := range []int{0, 1, 2} {
			r.A = cur
			may(t, r, true)
		}
		for _, cur := range []int{-1, -2, 3, 4, math.MaxInt, math.MinInt} {
			r.A = cur
			may(t, r, false)
		}
	}
}

func TestMayOfVoid(t *testing.T) {
	for _, a := range anyNumbers {
		for _, b := range anyNumbers {
			for _, n := range anyNumbers {
				may(t, api.Request{Key: 1, Op: api.OpVoid, A: a, B: b, Amount: n}, true)
			}
		}
	}
}

func TestMayByAmount(t *testing.T) {
	for _, op := range withAmount {
		r := plain(op)
		for _, n := range []int{1, 2, 5, 1 << 32, amount - 1, amount} {
			r.Amount = n
			may(t, r, true)
		}
		for _, n := range []int{0, -1, -amount, amount + 1, 1 << 50, math.MaxInt, math.MinInt} {
			r.Amount = n
			may(t, r, false)
		}
	}
}

// Whether there are such accounts or payments is not asked.
func TestMayWhateverAandB(t *testing.T) {
	for _, op := range withAmount {
		r := plain(op)
		for _, a := range anyNumbers {
			for _, b := range anyNumbers {
				r.A, r.B = a, b
				may(t, r, true)
			}
		}
	}
}

func TestLong(t *testing.T) {
	for _, op := range slices.Concat(ops, notOps) {
		for _, n := range []int{1, 2, 3, 4, 5, math.MaxInt} {
			if request.Long(api.Request{Op: op, Amount: 1, Legs: n}) != (op == api.OpTransfer) {
				t.Errorf("Op %d with %d legs", op, n)
			}
		}
		for _, n := range []int{0, -1, -4, math.MinInt} {
			if request.Long(api.Request{Op: op, Amount: 1, Legs: n}) {
				t.Errorf("Op %d with %d legs", op, n)
			}
		}
	}
	// Whether it is valid is not asked.
	for _, r := range []api.Request{{Key: -1}, {Until: -1}, {Amount: amount + 1}, {A: -1, B: -1}} {
		r.Op = api.OpTransfer
		if request.Long(r) {
			t.Errorf("%+v", r)
		}
		r.Legs = 1
		if !request.Long(r) {
			t.Errorf("%+v", r)
		}
	}
}

// P10.2: Bytes and Read

// encodings are written out by hand: no code of the package made them.
var encodings = []struct {
	r    api.Request
	code string
}{
	{api.Request{Key: 1, Op: api.OpOpen, A: 2}, "\x02\x00\x04\x00\x00\x00\x00"},
	{api.Request{}, "\x00\x00\x00\x00\x00\x00\x00"},
	{api.Request{Key: 1, Op: 2, A: 3, B: 4, Amount: 5, Legs: 4, Until: 7}, "\x02\x04\x06\x08\x0a\x08\x0e"},
	{api.Request{Key: 63, Op: 7, A: -1, B: -2, Amount: 64, Until: 150}, "\x7e\x0e\x01\x03\x80\x01\x00\xac\x02"},
	{api.Request{Key: 1<<30 - 1, Op: 3, A: -65, B: 8192, Amount: amount, Until: ticks}, "\xfe\xff\xff\xff\x07\x06\x81\x01\x80\x80\x01\x80\x80\x80\x80\x80\x40\x00\x80\x80\x80\x80\x08"},
	{api.Request{Op: 5, A: math.MaxInt, B: math.MinInt, Amount: -1}, "\x00\x0a\xfe\xff\xff\xff\xff\xff\xff\xff\xff\x01\xff\xff\xff\xff\xff\xff\xff\xff\xff\x01\x01\x00\x00"},
}

// wrongEncodings are of requests that are not valid.
var wrongEncodings = []struct {
	r    api.Request
	code string
}{
	{api.Request{Key: -1}, "\x01\x00\x00\x00\x00\x00\x00"},
	{api.Request{Key: 1 << 30}, "\x80\x80\x80\x80\x08\x00\x00\x00\x00\x00\x00"},
	{api.Request{Op: -1}, "\x00\x01\x00\x00\x00\x00\x00"},
	{api.Request{Op: 8, Amount: 1}, "\x00\x10\x00\x00\x02\x00\x00"},
	{api.Request{A: 3}, "\x00\x00\x06\x00\x00\x00\x00"},
	{api.Request{Op: 1}, "\x00\x02\x00\x00\x00\x00\x00"},
	{api.Request{Op: 7, Amount: amount + 1}, "\x00\x0e\x00\x00\x82\x80\x80\x80\x80\x40\x00\x00"},
	{api.Request{Op: 2, Amount: 1, Legs: 5}, "\x00\x04\x00\x00\x02\x0a\x00"},
	{api.Request{Op: 1, Amount: 1, Legs: 1}, "\x00\x02\x00\x00\x02\x02\x00"},
	{api.Request{Until: ticks + 1}, "\x00\x00\x00\x00\x00\x00\x82\x80\x80\x80\x08"},
	{api.Request{Until: -1}, "\x00\x00\x00\x00\x00\x00\x01"},
	{
		api.Request{Key: math.MinInt, Op: math.MaxInt, A: math.MinInt, B: math.MaxInt, Amount: math.MinInt, Legs: math.MaxInt, Until: math.MinInt},
		"\xff\xff\xff\xff\xff\xff\xff\xff\xff\x01\xfe\xff\xff\xff\xff\xff\xff\xff\xff\x01" +
			"\xff\xff\xff\xff\xff\xff\xff\xff\xff\x01\xfe\xff\xff\xff\xff\xff\xff\xff\xff\x01" +
			"\xff\xff\xff\xff\xff\xff\xff\xff\xff\x01\xfe\xff\xff\xff\xff\xff\xff\xff\xff\x01" +
			"\xff\xff\xff\xff\xff\xff\xff\xff\xff\x01",
	},
}

// wrongNumbers are no numbers of layer 2, whatever stands behind them.
var wrongNumbers = []string{
	// Longer than they must be.
	"\x80\x00", "\x82\x00", "\x81\x80\x00", "\x80\x80\x80\x80\x80\x80\x80\x80\x80\x00",
	// More than 64 bits.
	"\x80\x80\x80\x80\x80\x80\x80\x80\x80\x02", "\xff\xff\xff\xff\xff\xff\xff\xff\xff\x7f", "\x80\x80\x80\x80\x80\x80\x80\x80\x80\x80\x01",
}

// behind are what may stand behind an encoding.
var behind = []string{"", "\x00", "\x07", "\xff", "\x80\x00", "\x02\x00\x04\x00\x00\x00\x00", "\x00\x01\x02\x03\x04\x05\x06\x07\x08\x09"}

// numbers are a request's, in the order of their encodings.
func numbers(r api.Request) []int {
	return []int{r.Key, int(r.Op), r.A, r.B, r.Amount, r.Legs, r.Until}
}

// of is a request of seven numbers.
func of(ns []int) api.Request {
	return api.Request{Key: ns[0], Op: api.Op(ns[1]), A: ns[2], B: ns[3], Amount: ns[4], Legs: ns[5], Until: ns[6]}
}

// number is a plain second reading of how layer 2 has one.
func number(n int) []byte {
	u := uint64(n) * 2
	if n < 0 {
		u = uint64(-1-n)*2 + 1
	}
	b := []byte{}
	for ; u > 127; u /= 128 {
		b = append(b, byte(u%128+128))
	}
	return append(b, byte(u))
}

// inRow are numbers one behind the other.
func inRow(ns ...int) []byte {
	b := []byte{}
	for _, n := range ns {
		b = append(b, number(n)...)
	}
	return b
}

func reads(t *testing.T, b []byte, want api.Request, rest string) {
	t.Helper()
	before := slices.Clone(b)
	r, left, ok := request.Read(b)
	if r != want || string(left) != rest || !ok {
		t.Errorf("Read(%x) is %+v, %x, %t, not %+v, %x", b, r, left, ok, want, rest)
	}
	if !bytes.Equal(b, before) {
		t.Errorf("Read changes %x to %x", before, b)
	}
}

func readsNone(t *testing.T, b []byte) {
	t.Helper()
	before := slices.Clone(b)
	if r, left, ok := request.Read(b); r != (api.Request{}) || len(left) != 0 || ok {
		t.Errorf("Read(%x) is %+v, %x, %t", b, r, left, ok)
	}
	if !bytes.Equal(b, before) {
		t.Errorf("Read changes %x to %x", before, b)
	}
}

func TestBytes(t *testing.T) {
	for _, c := range slices.Concat(encodings, wrongEncodings) {
		if b := request.Bytes(c.r); string(b) != c.code {
			t.Errorf("Bytes(%+v) is %x, not %x", c.r, b, c.code)
		}
	}
	for _, r := range slices.Concat(samples(), wrongs()) {
		if b, want := request.Bytes(r), inRow(numbers(r)...); !bytes.Equal(b, want) {
			t.Errorf("Bytes(%+v) is %x, not %x", r, b, want)
		}
	}
}

// Each number has its own place, whatever the others are.
func TestBytesOfAnyNumbers(t *testing.T) {
	for k := range 7 {
		for _, n := range anyNumbers {
			for _, others := range []int{0, -1, 77, math.MaxInt, math.MinInt} {
				ns := slices.Repeat([]int{others}, 7)
				ns[k] = n
				if b, want := request.Bytes(of(ns)), inRow(ns...); !bytes.Equal(b, want) {
					t.Errorf("Bytes of %v are %x, not %x", ns, b, want)
				}
			}
		}
	}
}

func TestRead(t *testing.T) {
	for _, c := range encodings {
		for _, rest := range behind {
			reads(t, []byte(c.code+rest), c.r, rest)
		}
	}
	for _, r := range samples() {
		for _, rest := range behind {
			reads(t, append(inRow(numbers(r)...), rest...), r, rest)
		}
	}
}

func TestReadOfWhatIsNotValid(t *testing.T) {
	for _, c := range wrongEncodings {
		for _, rest := range behind {
			readsNone(t, []byte(c.code+rest))
		}
	}
	for _, r := range wrongs() {
		readsNone(t, inRow(numbers(r)...))
		readsNone(t, append(inRow(numbers(r)...), 0, 0, 7))
	}
	// A valid one behind it does not count.
	readsNone(t, []byte("\x01\x00\x00\x00\x00\x00\x00"+encodings[0].code))
}

func TestReadOfNoBytes(t *testing.T) {
	readsNone(t, nil)
	readsNone(t, []byte{})
	// What stands in the room behind a slice's length is not there.
	readsNone(t, []byte(encodings[0].code)[:0])
}

func TestReadOfCutBytes(t *testing.T) {
	for _, r := range samples() {
		b := inRow(numbers(r)...)
		for n := range b {
			readsNone(t, b[:n])
		}
		reads(t, b, r, "")
	}
}

func TestReadOfWrongNumbers(t *testing.T) {
	for _, r := range samples() {
		ns := numbers(r)
		for k := range ns {
			for _, wrong := range wrongNumbers {
				b := slices.Concat(inRow(ns[:k]...), []byte(wrong), inRow(ns[k+1:]...))
				readsNone(t, b)
				readsNone(t, append(b, 0, 0, 0))
			}
			// The right number, but with an empty group behind it.
			long := number(ns[k])
			long[len(long)-1] += 128
			readsNone(t, slices.Concat(inRow(ns[:k]...), long, []byte{0}, inRow(ns[k+1:]...)))
		}
	}
}

// What stands behind a request is not read.
func TestReadBeforeWrongNumbers(t *testing.T) {
	for _, r := range samples() {
		for _, rest := range append(wrongNumbers, "\x80", "\xff\xff\xff") {
			reads(t, append(inRow(numbers(r)...), rest...), r, rest)
		}
	}
}

// What is read of bytes of which one is turned has just the bytes that it was read of.
func TestReadOfTurnedBytes(t *testing.T) {
	valid, not := 0, 0
	for _, r := range samples() {
		for _, rest := range []string{"", "\x00\x02\x80\x01"} {
			b := append(inRow(numbers(r)...), rest...)
			for k := range b {
				for x := 1; x < 256; x++ {
					b[k] ^= byte(x)
					agreeOnRead(t, b)
					if got, left, ok := request.Read(b); ok {
						valid++
						if got == r && k < len(b)-len(rest) || !bytes.Equal(append(request.Bytes(got), left...), b) {
							t.Errorf("Read(%x) is %+v, %x", b, got, left)
						}
					} else {
						not++
					}
					b[k] ^= byte(x)
				}
			}
		}
	}
	if valid < 10000 || not < 10000 {
		t.Errorf("%d are valid and %d are not: too few", valid, not)
	}
}

// P10.2: Reply and ReadReply

var replies = []struct {
	r    api.Reply
	code string
}{
	{api.Reply{}, "\x00\x00"},
	{api.Reply{ID: 9}, "\x00\x12"},
	{api.Reply{ID: -1}, "\x00\x01"},
	{api.Reply{Err: api.ErrBad}, "\x02\x00"},
	{api.Reply{Err: api.ErrKey, ID: 9}, "\x0a\x12"},
	{api.Reply{Err: api.ErrPending, ID: 64}, "\x14\x80\x01"},
	{api.Reply{Err: api.ErrCrash, ID: 150}, "\x18\xac\x02"},
	{api.Reply{Err: api.ErrArgument, ID: -2}, "\x1a\x03"},
	{api.Reply{Err: 13, ID: math.MaxInt}, "\x1a\xfe\xff\xff\xff\xff\xff\xff\xff\xff\x01"},
	{api.Reply{ID: math.MinInt}, "\x00\xff\xff\xff\xff\xff\xff\xff\xff\xff\x01"},
}

// wrongReplies have an Err that is none.
var wrongReplies = []struct {
	r    api.Reply
	code string
}{
	{api.Reply{Err: -1}, "\x01\x00"},
	{api.Reply{Err: -1, ID: 9}, "\x01\x12"},
	{api.Reply{Err: 14}, "\x1c\x00"},
	{api.Reply{Err: 14, ID: -1}, "\x1c\x01"},
	{api.Reply{Err: 64, ID: 1}, "\x80\x01\x02"},
	{api.Reply{Err: math.MaxInt, ID: math.MinInt}, "\xfe\xff\xff\xff\xff\xff\xff\xff\xff\x01\xff\xff\xff\xff\xff\xff\xff\xff\xff\x01"},
	{api.Reply{Err: math.MinInt, ID: 7}, "\xff\xff\xff\xff\xff\xff\xff\xff\xff\x01\x0e"},
}

func readsReply(t *testing.T, b []byte, want api.Reply, rest string) {
	t.Helper()
	before := slices.Clone(b)
	r, left, ok := request.ReadReply(b)
	if r != want || string(left) != rest || !ok {
		t.Errorf("ReadReply(%x) is %+v, %x, %t, not %+v, %x", b, r, left, ok, want, rest)
	}
	if !bytes.Equal(b, before) {
		t.Errorf("ReadReply changes %x to %x", before, b)
	}
}

func readsNoReply(t *testing.T, b []byte) {
	t.Helper()
	before := slices.Clone(b)
	if r, left, ok := request.ReadReply(b); r != (api.Reply{}) || len(left) != 0 || ok {
		t.Errorf("ReadReply(%x) is %+v, %x, %t", b, r, left, ok)
	}
	if !bytes.Equal(b, before) {
		t.Errorf("ReadReply changes %x to %x", before, b)
	}
}

func TestReply(t *testing.T) {
	for _, c := range slices.Concat(replies, wrongReplies) {
		if b := request.Reply(c.r); string(b) != c.code {
			t.Errorf("Reply(%+v) is %x, not %x", c.r, b, c.code)
		}
	}
	for _, wrong := range anyNumbers {
		for _, id := range anyNumbers {
			r := api.Reply{Err: api.Errno(wrong), ID: id}
			if b, want := request.Reply(r), inRow(wrong, id); !bytes.Equal(b, want) {
				t.Errorf("Reply(%+v) is %x, not %x", r, b, want)
			}
		}
	}
}

func TestReadReply(t *testing.T) {
	for _, c := range replies {
		for _, rest := range behind {
			readsReply(t, []byte(c.code+rest), c.r, rest)
		}
	}
	for _, c := range wrongReplies {
		for _, rest := range behind {
			readsNoReply(t, []byte(c.code+rest))
		}
	}
}

func TestReadReplyByErr(t *testing.T) {
	for _, id := range anyNumbers {
		for e := range 14 {
			readsReply(t, inRow(e, id), api.Reply{Err: api.Errno(e), ID: id}, "")
			readsReply(t, append(inRow(e, id), 1), api.Reply{Err: api.Errno(e), ID: id}, "\x01")
		}
		for _, e := range []int{-1, -2, -13, 14, 15, 64, 1 << 32, math.MaxInt, math.MinInt} {
			readsNoReply(t, inRow(e, id))
			readsNoReply(t, append(inRow(e, id), 0, 0))
		}
	}
}

func TestReadReplyOfCutBytes(t *testing.T) {
	readsNoReply(t, nil)
	readsNoReply(t, []byte{})
	for _, c := range replies {
		for n := range len(c.code) {
			readsNoReply(t, []byte(c.code)[:n])
		}
	}
}

func TestReadReplyOfWrongNumbers(t *testing.T) {
	for _, c := range replies {
		ns := []int{int(c.r.Err), c.r.ID}
		for k := range ns {
			for _, wrong := range wrongNumbers {
				readsNoReply(t, slices.Concat(inRow(ns[:k]...), []byte(wrong), inRow(ns[k+1:]...)))
			}
			long := number(ns[k])
			long[len(long)-1] += 128
			readsNoReply(t, slices.Concat(inRow(ns[:k]...), long, []byte{0}, inRow(ns[k+1:]...)))
		}
		for _, rest := range append(wrongNumbers, "\x80", "\xff\xff\xff") {
			readsReply(t, []byte(c.code+rest), c.r, rest)
		}
	}
}

func TestReadReplyOfTurnedBytes(t *testing.T) {
	valid, not := 0, 0
	for _, c := range replies {
		b := []byte(c.code + "\x80\x05")
		for k := range b {
			for x := 1; x < 256; x++ {
				b[k] ^= byte(x)
				agreeOnReply(t, b)
				if got, left, ok := request.ReadReply(b); ok {
					valid++
					if got == c.r && k < len(c.code) || !bytes.Equal(append(request.Reply(got), left...), b) {
						t.Errorf("ReadReply(%x) is %+v, %x", b, got, left)
					}
				} else {
					not++
				}
				b[k] ^= byte(x)
			}
		}
	}
	if valid < 1000 || not < 1000 {
		t.Errorf("%d are valid and %d are not: too few", valid, not)
	}
}

// All of it

// The chapter's example.
func TestExample(t *testing.T) {
	r := api.Request{Key: 1, Op: api.OpOpen, A: 2}
	b := []byte{2, 0, 4, 0, 0, 0, 0}
	if got := request.Bytes(r); !bytes.Equal(got, b) {
		t.Errorf("%v", got)
	}
	reads(t, b, r, "")
}

// Requests and replies that stand in a row are read one behind the other.
func TestInARow(t *testing.T) {
	b := []byte{}
	for _, r := range samples() {
		b = append(b, request.Bytes(r)...)
		b = append(b, request.Reply(api.Reply{Err: api.Errno(r.Key % 14), ID: r.A})...)
	}
	for _, r := range samples() {
		got, rest, ok := request.Read(b)
		if got != r || !ok {
			t.Fatalf("%+v, %t, not %+v", got, ok, r)
		}
		reply, rest, ok := request.ReadReply(rest)
		if (reply != api.Reply{Err: api.Errno(r.Key % 14), ID: r.A}) || !ok {
			t.Fatalf("%+v, %t behind %+v", reply, ok, r)
		}
		b = rest
	}
	if len(b) != 0 {
		t.Errorf("%x is left", b)
	}
}

// W6: what comes back changes apart from the bytes that came in, and from what another call gives.
func TestResultsAreApart(t *testing.T) {
	readRest := func(b []byte) []byte {
		_, rest, _ := request.Read(b)
		return rest
	}
	replyRest := func(b []byte) []byte {
		_, rest, _ := request.ReadReply(b)
		return rest
	}
	requestBytes := func([]byte) []byte { return request.Bytes(plain(api.OpAuth)) }
	replyBytes := func([]byte) []byte { return request.Reply(api.Reply{Err: api.ErrLeg, ID: 300}) }
	for k, call := range []func([]byte) []byte{readRest, replyRest, requestBytes, replyBytes} {
		room := []byte(encodings[0].code + "\x05\x06\x07\x08")
		before := slices.Clone(room)
		b := room[:len(room)-1]
		first, second := call(b), call(b)
		want := slices.Clone(second)
		for j := range first {
			first[j] = 99
		}
		_ = append(first, 99)
		if !bytes.Equal(room, before) || !bytes.Equal(second, want) {
			t.Errorf("call %d: %x, %x", k, room, second)
		}
		clear(room)
		if !bytes.Equal(second, want) {
			t.Errorf("call %d keeps what it was given", k)
		}
	}
}

// Drawn inputs against a plain second reading of the chapter.

type draw uint64

func (s *draw) below(n int) int {
	*s = *s*6364136223846793005 + 1442695040888963407
	return int(uint64(*s)>>33) % n
}

func (s *draw) of(ns ...int) int { return ns[s.below(len(ns))] }

// any is a number of any size, either way.
func (s *draw) any() int {
	n := (s.below(1<<31)<<32 + s.below(1<<31)<<1) >> s.below(64)
	return s.of(n, -n, anyNumbers[s.below(len(anyNumbers))])
}

// request is mostly valid, and has few numbers that are not.
func (s *draw) request() api.Request {
	r := api.Request{Key: s.of(s.below(300), s.below(ticks)), Op: api.Op(s.below(8)), A: s.any(), B: s.any(), Until: s.of(0, s.below(300), ticks)}
	r.Amount = s.of(1, 1+s.below(300), 1+s.below(ticks)<<10, amount)
	if r.Op == api.OpOpen {
		r.A = s.below(3)
	}
	if r.Op == api.OpTransfer {
		r.Legs = s.below(5)
	}
	switch s.below(14) {
	case 0:
		r.Key = s.of(-1, 1<<30-1, 1<<30, s.any())
	case 1:
		r.Op = api.Op(s.of(-1, 8, s.below(8), s.any()))
	case 2:
		r.A = s.of(-1, 2, 3, s.any())
	case 3:
		r.Amount = s.of(-1, 0, amount+1, s.any())
	case 4:
		r.Legs = s.of(-1, 1, 4, 5, s.any())
	case 5:
		r.Until = s.of(-1, ticks+1, s.any())
	}
	return r
}

// garbled is bytes with a few things done to them: turned, left out, put in, cut, or more behind.
func (s *draw) garbled(b []byte) []byte {
	b = slices.Clone(b)
	for range s.below(3) {
		at := s.below(len(b) + 1)
		switch s.below(5) {
		case 0:
			b = slices.Insert(b, at, byte(s.of(0, 128, 255, s.below(256))))
		case 1:
			b = b[:at]
		case 2:
			b = slices.Delete(b, at, min(at+1, len(b)))
		case 3:
			b = append(b, byte(s.below(256)), byte(s.below(256)))
		default:
			if at < len(b) {
				b[at] ^= 1 << s.below(8)
			}
		}
	}
	return b
}

// isValid is a plain second reading of P10.1.
func isValid(r api.Request) bool {
	if r.Key < 0 || r.Key >= 1<<30 || r.Legs < 0 || r.Legs > 4 || r.Until < 0 || r.Until > 1<<30 {
		return false
	}
	if r.Legs != 0 && r.Op != 2 {
		return false
	}
	if r.Op == 0 {
		return r.A == 0 || r.A == 1 || r.A == 2
	}
	return r.Op == 5 || r.Op > 0 && r.Op < 8 && r.Amount > 0 && r.Amount <= 1<<40
}

// loosely takes numbers without asking whether they are too long: only what is made of them tells whether they are those of the bytes.
func loosely(b []byte, count int) []int {
	ns := []int{}
	for len(ns) < count && len(b) > 0 {
		u, at := uint64(0), 0
		for ; at < len(b)-1 && b[at] > 127; at++ {
			u += uint64(b[at]-128) << (7 * at)
		}
		u += uint64(b[at]) << (7 * at)
		if u%2 == 1 {
			ns = append(ns, -1-int(u/2))
		} else {
			ns = append(ns, int(u/2))
		}
		b = b[at+1:]
	}
	return ns
}

// beginsWith tells the numbers of which an encoding stands at the beginning of bytes, and what is behind it.
func beginsWith(b []byte, count int) ([]int, []byte, bool) {
	ns := loosely(b, count)
	if len(ns) != count {
		return nil, nil, false
	}
	rest, ok := bytes.CutPrefix(b, inRow(ns...))
	return ns, rest, ok
}

// agreeOnRead tells whether the bytes have a request by both readings.
func agreeOnRead(t *testing.T, b []byte) bool {
	t.Helper()
	want, wantRest := api.Request{}, []byte(nil)
	ns, rest, wantOK := beginsWith(b, 7)
	wantOK = wantOK && isValid(of(ns))
	if wantOK {
		want, wantRest = of(ns), rest
	}
	r, left, ok := request.Read(b)
	if r != want || !bytes.Equal(left, wantRest) || ok != wantOK {
		t.Fatalf("Read(%x) is %+v, %x, %t, not %+v, %x, %t", b, r, left, ok, want, wantRest, wantOK)
	}
	return ok
}

// agreeOnReply tells whether the bytes have a reply by both readings.
func agreeOnReply(t *testing.T, b []byte) bool {
	t.Helper()
	want, wantRest := api.Reply{}, []byte(nil)
	ns, rest, wantOK := beginsWith(b, 2)
	wantOK = wantOK && ns[0] >= 0 && ns[0] <= 13
	if wantOK {
		want, wantRest = api.Reply{Err: api.Errno(ns[0]), ID: ns[1]}, rest
	}
	r, left, ok := request.ReadReply(b)
	if r != want || !bytes.Equal(left, wantRest) || ok != wantOK {
		t.Fatalf("ReadReply(%x) is %+v, %x, %t, not %+v, %x, %t", b, r, left, ok, want, wantRest, wantOK)
	}
	return ok
}

// seen counts how often the answer was false and true.
type seen [2]int

func (s *seen) add(ok bool) {
	if ok {
		s[1]++
	} else {
		s[0]++
	}
}

func (s *seen) enough(t *testing.T, least int) {
	t.Helper()
	if min(s[0], s[1]) < least {
		t.Errorf("%d are false and %d are true: too few", s[0], s[1])
	}
}

func TestDrawnRequests(t *testing.T) {
	s, valid, long := draw(10), seen{}, seen{}
	for range 50000 {
		r := s.request()
		if request.May(r) != isValid(r) {
			t.Fatalf("May(%+v) is %t", r, !isValid(r))
		}
		if want := r.Op == 2 && r.Legs >= 1; request.Long(r) != want {
			t.Fatalf("Long(%+v) is %t", r, !want)
		}
		b := request.Bytes(r)
		if !bytes.Equal(b, inRow(numbers(r)...)) {
			t.Fatalf("Bytes(%+v) is %x", r, b)
		}
		if agreeOnRead(t, b) != isValid(r) {
			t.Fatalf("Read of the bytes of %+v", r)
		}
		valid.add(isValid(r))
		long.add(request.Long(r))
	}
	valid.enough(t, 5000)
	long.enough(t, 3000)
}

func TestDrawnBytes(t *testing.T) {
	s, requests, replies := draw(11), seen{}, seen{}
	for range 50000 {
		requests.add(agreeOnRead(t, s.garbled(request.Bytes(s.request()))))
		r := api.Reply{Err: api.Errno(s.of(s.below(14), s.below(14), s.below(17)-1, s.any())), ID: s.any()}
		b := request.Reply(r)
		if !bytes.Equal(b, inRow(int(r.Err), r.ID)) {
			t.Fatalf("Reply(%+v) is %x", r, b)
		}
		replies.add(agreeOnReply(t, s.garbled(b)))
	}
	requests.enough(t, 5000)
	replies.enough(t, 5000)
}

// Bytes that nothing made: of any length and any values.
func TestAnyBytes(t *testing.T) {
	s, requests, replies := draw(12), seen{}, seen{}
	for range 50000 {
		b := make([]byte, s.below(30))
		for k := range b {
			b[k] = byte(s.of(0, s.below(16), s.below(16), s.below(256)))
		}
		requests.add(agreeOnRead(t, b))
		replies.add(agreeOnReply(t, b))
	}
	requests.enough(t, 200)
	replies.enough(t, 200)
}
