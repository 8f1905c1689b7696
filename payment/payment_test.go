package payment_test

import (
	"errors"
	"math"
	"testing"

	"hawala/api"
	"hawala/payment"
)

const (
	most   = 1 << 40 // that may be authorised
	latest = 1 << 30 // tick
)

// anyInts are of all sizes: a payment that is not right may have any int.
var anyInts = []int{math.MinInt, math.MinInt + 1, -most - 1, -2, -1, 0, 1, 2, 7, latest, latest + 1, most - 1, most, most + 1, math.MaxInt - 1, math.MaxInt}

// anyStages are the two, and others.
var anyStages = []api.Stage{api.Open, api.Closed, 2, -1, math.MinInt, math.MaxInt}

// theOps are those of a payment, noOps are others.
var (
	theOps = []api.Op{api.OpCapture, api.OpRefund, api.OpCharge, api.OpVoid}
	noOps  = []api.Op{api.OpOpen, api.OpDeposit, api.OpTransfer, api.OpAuth, -1, 8, 9, math.MinInt, math.MaxInt}
)

// full has no number that is 0 or stands twice, so that one that goes missing, or to another place, is seen: 60 are left, 25 of the 40 may go back.
func full() api.Payment {
	return api.Payment{From: 9, To: 11, Auth: 100, Captured: 40, Refunded: 10, Charged: 5, Until: 77}
}

// closed is a payment with another stage.
func closed(p api.Payment) api.Payment { return staged(p, api.Closed) }

func staged(p api.Payment, s api.Stage) api.Payment {
	p.Stage = s
	return p
}

// captured is a payment of which that much was captured, and that much went back in two ways.
func captured(auth, n, refunded, charged int) api.Payment {
	p := full()
	p.Auth, p.Captured, p.Refunded, p.Charged = auth, n, refunded, charged
	return p
}

// numbers is how many of them a payment has, beside the Stage.
const numbers = 7

// with is a payment with another number in one place.
func with(p api.Payment, place, n int) api.Payment {
	switch place {
	case 0:
		p.From = n
	case 1:
		p.To = n
	case 2:
		p.Auth = n
	case 3:
		p.Captured = n
	case 4:
		p.Refunded = n
	case 5:
		p.Charged = n
	case 6:
		p.Until = n
	}
	return p
}

func left(t *testing.T, p api.Payment, want int) {
	t.Helper()
	if got := payment.Left(p); got != want {
		t.Errorf("Left(%+v) = %d, not %d", p, got, want)
	}
}

func gave(t *testing.T, p api.Payment, want int) {
	t.Helper()
	if got := payment.Gave(p); got != want {
		t.Errorf("Gave(%+v) = %d, not %d", p, got, want)
	}
}

func right(t *testing.T, p api.Payment, want bool) {
	t.Helper()
	if got := payment.Right(p); got != want {
		t.Errorf("Right(%+v) = %t", p, got)
	}
}

// does has an op be done, and gives what comes of it.
func does(t *testing.T, p api.Payment, op api.Op, n int, want api.Payment) api.Payment {
	t.Helper()
	got, err := payment.Do(p, op, n)
	if err != nil || got != want {
		t.Errorf("Do(%+v, %d, %d) = %+v, %v, not %+v", p, op, n, got, err, want)
	}
	return got
}

func fails(t *testing.T, p api.Payment, op api.Op, n int, want api.Errno) {
	t.Helper()
	got, err := payment.Do(p, op, n)
	if got != (api.Payment{}) || !errors.Is(err, want) {
		t.Errorf("Do(%+v, %d, %d) = %+v, %v, not %v", p, op, n, got, err, want)
	}
}

// P12.1: Left

func TestLeft(t *testing.T) {
	for _, c := range []struct{ auth, captured, want int }{
		{9, 0, 9}, {9, 1, 8}, {9, 4, 5}, {9, 8, 1}, {9, 9, 0}, {1, 0, 1}, {1, 1, 0},
		{most, 0, most}, {most, 1, most - 1}, {most, most - 1, 1}, {most, most, 0},
		{0, 0, 0}, {9, 10, -1}, {9, -1, 10}, {-5, 3, -8},
		{math.MinInt, 1, math.MaxInt}, {math.MaxInt, -1, math.MinInt}, {math.MaxInt, math.MaxInt, 0}, {0, math.MinInt, math.MinInt},
	} {
		for _, back := range []int{0, c.captured, 3, -3, math.MaxInt} {
			left(t, captured(c.auth, c.captured, back, 0), c.want)
			left(t, captured(c.auth, c.captured, 0, back), c.want)
			left(t, api.Payment{Auth: c.auth, Captured: c.captured, Refunded: back, Charged: back}, c.want)
		}
		for _, s := range anyStages[1:] {
			left(t, staged(captured(c.auth, c.captured, 0, 0), s), 0)
			left(t, staged(captured(c.auth, c.captured, c.captured, 2), s), 0)
		}
	}
	left(t, api.Payment{}, 0)
}

// P12.1: Gave

func TestGave(t *testing.T) {
	for _, c := range []struct{ captured, refunded, charged, want int }{
		{0, 0, 0, 0}, {4, 0, 0, 4}, {4, 1, 0, 3}, {4, 0, 1, 3}, {4, 1, 3, 0}, {4, 3, 1, 0}, {4, 4, 0, 0}, {4, 0, 4, 0}, {9, 2, 3, 4},
		{most, 0, 0, most}, {most, 1, 0, most - 1}, {most, 1, most - 1, 0}, {most, most, 0, 0}, {most, 0, most, 0},
		{4, 3, 3, -2}, {4, -1, 0, 5}, {4, 0, -1, 5}, {-4, 1, 1, -6},
		{math.MinInt, 1, 0, math.MaxInt}, {math.MaxInt, 0, -1, math.MinInt}, {0, math.MaxInt, math.MaxInt, 2}, {3, math.MinInt, math.MinInt, 3},
	} {
		for _, s := range anyStages {
			for _, auth := range []int{c.captured, 0, 9, most, -1} {
				gave(t, staged(captured(auth, c.captured, c.refunded, c.charged), s), c.want)
			}
		}
	}
	gave(t, api.Payment{}, 0)
}

// P12.1: Right

func TestRightAuth(t *testing.T) {
	for _, n := range anyInts {
		right(t, api.Payment{Auth: n}, 1 <= n && n <= most)
		right(t, captured(n, 0, 0, 0), 1 <= n && n <= most)
		right(t, closed(captured(n, n, n, 0)), 1 <= n && n <= most)
	}
	if api.MaxAmount != most || api.MaxTicks != latest {
		t.Error(api.MaxAmount, api.MaxTicks)
	}
}

func TestRightCaptured(t *testing.T) {
	for _, auth := range []int{1, 2, 100, most - 1, most} {
		for _, s := range anyStages[:2] {
			for _, n := range []int{0, 1, auth - 1, auth} {
				right(t, staged(captured(auth, n, 0, 0), s), true)
			}
			for _, n := range []int{-1, -2, -auth, auth + 1, 2*auth + 1, math.MinInt, math.MaxInt} {
				right(t, staged(captured(auth, n, 0, 0), s), false)
				right(t, staged(captured(auth, n, n, 0), s), false)
				right(t, staged(captured(auth, n, 0, n), s), false)
			}
		}
	}
	right(t, captured(0, 0, 0, 0), false)
	right(t, captured(-3, -3, 0, 0), false)
}

func TestRightBack(t *testing.T) {
	for _, n := range []int{0, 1, 7, most - 1, most} {
		for _, s := range anyStages[:2] {
			for _, back := range []int{0, n / 2, max(n-1, 0), n} {
				right(t, staged(captured(most, n, back, 0), s), true)
				right(t, staged(captured(most, n, 0, back), s), true)
				right(t, staged(captured(most, n, back, n-back), s), true)
				right(t, staged(captured(most, n, back, n-back+1), s), false)
				right(t, staged(captured(most, n, n-back+1, back), s), false)
			}
			for _, back := range []int{-1, -2, -n - 1, n + 1, n + 2, most + 1, math.MinInt, math.MaxInt} {
				right(t, staged(captured(most, n, back, 0), s), false)
				right(t, staged(captured(most, n, 0, back), s), false)
				right(t, staged(captured(most, n, back, back), s), false)
			}
		}
	}
}

// Each part counts for itself, also where the sum would do, and where it goes over an int.
func TestRightBackBySum(t *testing.T) {
	for _, c := range [][2]int{{-1, 1}, {-1, 2}, {-1, 8}, {8, -1}, {-7, 7}, {-100, 105}, {math.MinInt, math.MinInt}, {math.MinInt, math.MaxInt}, {math.MaxInt, math.MaxInt}, {math.MaxInt, 1}, {math.MaxInt, 2}, {math.MinInt, -1}, {math.MinInt + 4, math.MinInt}, {1 << 62, 1 << 62}, {-1 << 62, -1 << 62}} {
		for _, n := range []int{0, 5, 7, most} {
			right(t, captured(most, n, c[0], c[1]), false)
			right(t, captured(most, n, c[1], c[0]), false)
			right(t, closed(captured(most, n, c[1], c[0])), false)
		}
	}
}

func TestRightUntil(t *testing.T) {
	for _, n := range anyInts {
		right(t, with(full(), 6, n), 0 <= n && n <= latest)
		right(t, closed(with(full(), 6, n)), 0 <= n && n <= latest)
	}
	for _, n := range []int{latest - 1, latest / 2, 77} {
		right(t, with(full(), 6, n), true)
	}
}

func TestRightStage(t *testing.T) {
	for _, s := range anyStages {
		right(t, staged(full(), s), s == api.Open || s == api.Closed)
		right(t, api.Payment{Auth: 1, Stage: s}, s == api.Open || s == api.Closed)
	}
	right(t, captured(9, 9, 0, 0), true)
	right(t, closed(captured(9, 0, 0, 0)), true)
	right(t, api.Payment{}, false)
}

// Whose money it is does not count here.
func TestRightFromAndTo(t *testing.T) {
	for _, from := range anyInts {
		for _, to := range anyInts {
			right(t, with(with(full(), 0, from), 1, to), true)
			right(t, with(with(captured(0, 0, 0, 0), 0, from), 1, to), false)
		}
	}
}

// P12.2: Do

func TestCapture(t *testing.T) {
	for _, n := range []int{1, 2, 30, 59} {
		does(t, full(), api.OpCapture, n, captured(100, 40+n, 10, 5))
	}
	does(t, full(), api.OpCapture, 60, closed(captured(100, 100, 10, 5)))
	does(t, captured(9, 0, 0, 0), api.OpCapture, 9, closed(captured(9, 9, 0, 0)))
	does(t, captured(9, 0, 0, 0), api.OpCapture, 8, captured(9, 8, 0, 0))
	does(t, captured(1, 0, 0, 0), api.OpCapture, 1, closed(captured(1, 1, 0, 0)))
	does(t, captured(most, 0, 0, 0), api.OpCapture, most, closed(captured(most, most, 0, 0)))
	does(t, captured(most, 0, 0, 0), api.OpCapture, most-1, captured(most, most-1, 0, 0))
	does(t, captured(most, most-1, most-1, 0), api.OpCapture, 1, closed(captured(most, most, most-1, 0)))
}

// All of it is captured bit by bit: it is closed with the last one, and not before.
func TestCaptureInParts(t *testing.T) {
	p := captured(10, 0, 0, 0)
	for n := 1; n < 10; n++ {
		p = does(t, p, api.OpCapture, 1, captured(10, n, 0, 0))
	}
	fails(t, p, api.OpCapture, 2, api.ErrState)
	p = does(t, p, api.OpCapture, 1, closed(captured(10, 10, 0, 0)))
	fails(t, p, api.OpCapture, 1, api.ErrState)
}

func TestCaptureTooMuch(t *testing.T) {
	for _, c := range [][2]int{{100, 40}, {100, 0}, {100, 99}, {100, 100}, {1, 0}, {most, 0}, {most, 1}, {most, most}} {
		l := c[0] - c[1]
		for _, n := range []int{l + 1, l + 2, l + most, math.MaxInt - 1, math.MaxInt} {
			fails(t, captured(c[0], c[1], 0, 0), api.OpCapture, n, api.ErrState)
			fails(t, captured(c[0], c[1], c[1], 0), api.OpCapture, n, api.ErrState)
		}
	}
}

// Nothing is left of one that is closed, or that is of no stage.
func TestCaptureNotOpen(t *testing.T) {
	for _, s := range anyStages[1:] {
		for _, n := range []int{1, 59, 60, 61, math.MaxInt} {
			fails(t, staged(full(), s), api.OpCapture, n, api.ErrState)
			fails(t, staged(captured(100, 100, 0, 0), s), api.OpCapture, n, api.ErrState)
			fails(t, staged(captured(100, 0, 0, 0), s), api.OpCapture, n, api.ErrState)
		}
	}
}

// What goes back does not depend on the stage, and does not change it.
func TestRefundAndCharge(t *testing.T) {
	for _, s := range anyStages {
		for _, n := range []int{1, 2, 24, 25} {
			does(t, staged(full(), s), api.OpRefund, n, staged(captured(100, 40, 10+n, 5), s))
			does(t, staged(full(), s), api.OpCharge, n, staged(captured(100, 40, 10, 5+n), s))
		}
		for _, n := range []int{1, most - 1, most} {
			does(t, staged(captured(most, most, 0, 0), s), api.OpRefund, n, staged(captured(most, most, n, 0), s))
			does(t, staged(captured(most, most, 0, 0), s), api.OpCharge, n, staged(captured(most, most, 0, n), s))
		}
		does(t, staged(captured(9, 4, 0, 3), s), api.OpRefund, 1, staged(captured(9, 4, 1, 3), s))
		does(t, staged(captured(9, 4, 3, 0), s), api.OpCharge, 1, staged(captured(9, 4, 3, 1), s))
	}
}

func TestRefundAndChargeTooMuch(t *testing.T) {
	for _, c := range [][3]int{{40, 10, 5}, {0, 0, 0}, {4, 4, 0}, {4, 0, 4}, {4, 1, 3}, {4, 0, 0}, {most, 0, 0}, {most, 1, 2}, {most, most, 0}} {
		g := c[0] - c[1] - c[2]
		for _, s := range anyStages {
			p := staged(captured(most, c[0], c[1], c[2]), s)
			for _, n := range []int{g + 1, g + 2, g + most, math.MaxInt - 1, math.MaxInt} {
				fails(t, p, api.OpRefund, n, api.ErrState)
				fails(t, p, api.OpCharge, n, api.ErrState)
			}
		}
	}
}

// Refunds and charges share what was captured.
func TestRefundAndChargeInTurn(t *testing.T) {
	p := captured(9, 4, 0, 0)
	p = does(t, p, api.OpRefund, 1, captured(9, 4, 1, 0))
	p = does(t, p, api.OpCharge, 1, captured(9, 4, 1, 1))
	fails(t, p, api.OpRefund, 3, api.ErrState)
	fails(t, p, api.OpCharge, 3, api.ErrState)
	p = does(t, p, api.OpCharge, 1, captured(9, 4, 1, 2))
	p = does(t, p, api.OpRefund, 1, captured(9, 4, 2, 2))
	fails(t, p, api.OpRefund, 1, api.ErrState)
	fails(t, p, api.OpCharge, 1, api.ErrState)
	p = does(t, p, api.OpCapture, 5, closed(captured(9, 9, 2, 2)))
	does(t, p, api.OpRefund, 5, closed(captured(9, 9, 7, 2)))
	does(t, p, api.OpCharge, 5, closed(captured(9, 9, 2, 7)))
}

// The amount does not matter, and the second time is one too many.
func TestVoid(t *testing.T) {
	for _, p := range []api.Payment{full(), captured(9, 0, 0, 0), captured(9, 9, 0, 0), captured(most, 3, 3, 0), {}, {Auth: -4, Captured: 7}} {
		for _, n := range anyInts {
			v := does(t, p, api.OpVoid, n, closed(p))
			left(t, v, 0)
			gave(t, v, p.Captured-p.Refunded-p.Charged)
			for _, s := range anyStages[1:] {
				fails(t, staged(p, s), api.OpVoid, n, api.ErrState)
			}
			for _, again := range anyInts {
				fails(t, v, api.OpVoid, again, api.ErrState)
			}
		}
	}
}

// What was captured may go back behind a void, but no more is captured.
func TestBehindVoid(t *testing.T) {
	v := does(t, full(), api.OpVoid, 0, closed(full()))
	fails(t, v, api.OpCapture, 1, api.ErrState)
	v = does(t, v, api.OpRefund, 20, closed(captured(100, 40, 30, 5)))
	v = does(t, v, api.OpCharge, 5, closed(captured(100, 40, 30, 10)))
	fails(t, v, api.OpRefund, 1, api.ErrState)
	fails(t, v, api.OpCharge, 1, api.ErrState)
}

// various are payments of all kinds, right ones and others.
func various() []api.Payment {
	ps := []api.Payment{{}, full(), captured(9, 0, 0, 0), captured(9, 9, 9, 0), captured(most, most, 0, 0), captured(-1, 5, 7, 7)}
	for place := range numbers {
		for _, n := range anyInts {
			ps = append(ps, with(full(), place, n))
		}
	}
	for _, p := range ps {
		ps = append(ps, closed(p), staged(p, 2), staged(p, -1))
	}
	return ps
}

// W4: ErrArgument is named first.
func TestNoSuchOp(t *testing.T) {
	for _, p := range various() {
		for _, op := range noOps {
			for _, n := range []int{math.MinInt, -1, 0, 1, payment.Left(p), payment.Left(p) + 1, payment.Gave(p), payment.Gave(p) + 1, math.MaxInt} {
				fails(t, p, op, n, api.ErrArgument)
			}
		}
	}
}

// W4: ErrBad is named ahead of ErrState.
func TestBadAmount(t *testing.T) {
	for _, p := range various() {
		for _, op := range []api.Op{api.OpCapture, api.OpRefund, api.OpCharge} {
			for _, n := range []int{0, -1, -2, -100, -most, math.MinInt + 1, math.MinInt} {
				fails(t, p, op, n, api.ErrBad)
			}
		}
	}
}

// The amounts that matter, by Left and Gave themselves, of any payment.
func TestUpToLeftAndGave(t *testing.T) {
	for _, p := range various() {
		for _, op := range []api.Op{api.OpCapture, api.OpRefund, api.OpCharge} {
			may := payment.Gave(p)
			if op == api.OpCapture {
				may = payment.Left(p)
			}
			if may >= 1 {
				if _, err := payment.Do(p, op, may); err != nil {
					t.Errorf("Do(%+v, %d, %d): %v", p, op, may, err)
				}
			}
			if may < math.MaxInt {
				fails(t, p, op, max(may+1, 1), api.ErrState)
				fails(t, p, op, math.MaxInt, api.ErrState)
			}
		}
	}
}

// From, To, Auth and Until stay, whatever they are.
func TestTheRestStays(t *testing.T) {
	for _, n := range anyInts {
		for _, place := range []int{0, 1, 6} {
			p := with(full(), place, n)
			does(t, p, api.OpCapture, 3, with(captured(100, 43, 10, 5), place, n))
			does(t, p, api.OpCapture, 60, closed(with(captured(100, 100, 10, 5), place, n)))
			does(t, p, api.OpRefund, 3, with(captured(100, 40, 13, 5), place, n))
			does(t, p, api.OpCharge, 3, with(captured(100, 40, 10, 8), place, n))
			does(t, p, api.OpVoid, 3, closed(p))
		}
	}
	for _, auth := range anyInts {
		p := captured(auth, 40, 10, 5)
		does(t, p, api.OpRefund, 3, captured(auth, 40, 13, 5))
		does(t, p, api.OpCharge, 3, captured(auth, 40, 10, 8))
	}
}

// W5: of payments that are not right, too, the plain sums count, even where they wrap around.
func TestWrongPayments(t *testing.T) {
	does(t, captured(math.MinInt, 1, 0, 0), api.OpCapture, math.MaxInt, closed(captured(math.MinInt, math.MinInt, 0, 0)))
	does(t, captured(math.MinInt, 1, 0, 0), api.OpCapture, 6, captured(math.MinInt, 7, 0, 0))
	does(t, captured(4, -3, 0, 0), api.OpCapture, 7, closed(captured(4, 4, 0, 0)))
	does(t, captured(0, -3, 0, 0), api.OpCapture, 2, captured(0, -1, 0, 0))
	fails(t, captured(math.MaxInt, -1, 0, 0), api.OpCapture, 1, api.ErrState)
	fails(t, captured(4, 5, 0, 0), api.OpCapture, 1, api.ErrState)
	does(t, captured(9, 0, math.MaxInt, math.MaxInt), api.OpRefund, 2, captured(9, 0, math.MinInt+1, math.MaxInt))
	does(t, captured(9, 0, math.MaxInt, math.MaxInt), api.OpCharge, 2, captured(9, 0, math.MaxInt, math.MinInt+1))
	fails(t, captured(9, 0, math.MaxInt, math.MaxInt), api.OpRefund, 3, api.ErrState)
	fails(t, captured(9, 4, 3, 3), api.OpCharge, 1, api.ErrState)
}

// The chapter's example.
func TestExample(t *testing.T) {
	p, err := payment.Do(api.Payment{Auth: 9}, api.OpCapture, 9)
	if err != nil || p != (api.Payment{Auth: 9, Captured: 9, Stage: api.Closed}) {
		t.Error(p, err)
	}
}

// All small payments, and drawn ones, against a plain second reading of the chapter.

// rightByReading tells it by what may not be.
func rightByReading(p api.Payment) bool {
	switch {
	case p.Auth < 1, p.Auth > most, p.Captured < 0, p.Captured > p.Auth:
		return false
	case p.Refunded < 0, p.Refunded > p.Captured, p.Charged < 0, p.Charged > p.Captured:
		return false
	case p.Refunded > p.Captured-p.Charged:
		return false
	case p.Until < 0, p.Until > latest:
		return false
	}
	return p.Stage == 0 || p.Stage == 1
}

func leftByReading(p api.Payment) int {
	if p.Stage == 0 {
		return p.Auth - p.Captured
	}
	return 0
}

func doneByReading(p api.Payment, op api.Op, n int) (api.Payment, api.Errno) {
	none, after := api.Payment{}, p
	switch op {
	case 4:
		after.Captured = p.Captured + n
		if after.Captured == p.Auth {
			after.Stage = 1
		}
	case 5:
		after.Stage = 1
	case 6:
		after.Refunded = p.Refunded + n
	case 7:
		after.Charged = p.Charged + n
	}
	switch {
	case op < 4 || op > 7:
		return none, api.ErrArgument
	case op != 5 && n < 1:
		return none, api.ErrBad
	case op == 4 && n > leftByReading(p), op > 5 && n > p.Captured-p.Refunded-p.Charged, op == 5 && p.Stage != 0:
		return none, api.ErrState
	}
	return after, 0
}

// seen counts how often each error was the answer.
type seen [api.ErrArgument + 1]int

func (s *seen) agree(t *testing.T, p api.Payment, op api.Op, n int) {
	t.Helper()
	got, err := payment.Do(p, op, n)
	want, wrong := doneByReading(p, op, n)
	if got != want || api.Number(err) != wrong || (err == nil) != (wrong == 0) {
		t.Fatalf("Do(%+v, %d, %d) = %+v, %v, not %+v, %v", p, op, n, got, err, want, wrong)
	}
	if payment.Right(p) && wrong == 0 && !payment.Right(got) {
		t.Fatalf("Do(%+v, %d, %d) = %+v, which is not right", p, op, n, got)
	}
	s[wrong]++
}

func (s *seen) enough(t *testing.T) {
	t.Helper()
	for _, e := range []api.Errno{0, api.ErrArgument, api.ErrBad, api.ErrState} {
		if s[e] < 1000 {
			t.Errorf("%d calls end with %d: too few", s[e], e)
		}
	}
}

func properties(t *testing.T, p api.Payment) {
	t.Helper()
	left(t, p, leftByReading(p))
	gave(t, p, p.Captured-p.Refunded-p.Charged)
	right(t, p, rightByReading(p))
}

func TestAllSmallPayments(t *testing.T) {
	const side = 7 // each number is from -1 to 5
	ends := seen{}
	for k := range side * side * side * side * 4 {
		p := api.Payment{From: 9, To: 10, Until: 3}
		p.Auth, p.Captured = k%side-1, k/side%side-1
		p.Refunded, p.Charged = k/side/side%side-1, k/side/side/side%side-1
		p.Stage = api.Stage(k/side/side/side/side) - 1
		properties(t, p)
		for op := api.Op(-1); op <= 8; op++ {
			for n := -2; n <= 8; n++ {
				ends.agree(t, p, op, n)
			}
		}
	}
	ends.enough(t)
}

type draw uint64

func (s *draw) below(n int) int {
	*s = *s*6364136223846793005 + 1442695040888963407
	return int(uint64(*s)>>33) % n
}

func (s *draw) of(ns ...int) int { return ns[s.below(len(ns))] }

// upTo is a number from 0 to n, often one of the ends.
func (s *draw) upTo(n int) int { return s.of(0, n, n/2, int(float64(n)*float64(s.below(1000))/1000)) }

// payment is a right one, in which now and then a number or two are out of their place.
func (s *draw) payment() api.Payment {
	p := api.Payment{From: s.below(64), To: s.below(64), Auth: 1 + s.upTo(most-1), Until: s.upTo(latest), Stage: api.Stage(s.below(2))}
	p.Captured = s.upTo(p.Auth)
	p.Refunded = s.upTo(p.Captured)
	p.Charged = s.upTo(p.Captured - p.Refunded)
	for range s.of(0, 0, 0, 1, 2) {
		place := s.below(numbers + 1)
		p = with(p, place, anyInts[s.below(len(anyInts))])
		if place == numbers {
			p.Stage = anyStages[s.below(len(anyStages))]
		}
	}
	return p
}

func TestDrawnPayments(t *testing.T) {
	s, ends, rights := draw(21), seen{}, 0
	for range 40000 {
		p := s.payment()
		properties(t, p)
		if payment.Right(p) {
			rights++
		}
		l, g := payment.Left(p), payment.Gave(p)
		n := s.of(anyInts[s.below(len(anyInts))], l-1, l, l+1, g-1, g, g+1, s.upTo(most))
		ends.agree(t, p, api.Op(s.below(10)-1), n)
		ends.agree(t, p, theOps[s.below(len(theOps))], n)
	}
	ends.enough(t)
	if rights < 10000 || rights > 35000 {
		t.Error(rights)
	}
}

// T3: whatever is done, no more is captured than was authorised, and no more goes back than was captured.
func TestDrawnHistories(t *testing.T) {
	s := draw(22)
	for range 300 {
		start := api.Payment{From: 9, To: 10, Auth: 1 + s.upTo(s.of(20, most-1)), Until: s.upTo(latest)}
		p, in, back, voided := start, 0, 0, false
		for range 40 {
			op, n := api.Op(s.below(10)-1), s.of(s.below(6)-1, s.upTo(p.Auth))
			if op == api.OpVoid && s.below(8) > 0 {
				continue
			}
			after, err := payment.Do(p, op, n)
			if err != nil {
				continue
			}
			p = after
			switch op {
			case api.OpCapture:
				in += n
			case api.OpVoid:
				voided = true
			default:
				back += n
			}
			held := start.Auth - in
			if voided {
				held = 0
			}
			if in > start.Auth || back > in || p.Captured != in || p.Refunded+p.Charged != back || !payment.Right(p) {
				t.Fatalf("%+v behind %d in, %d back", p, in, back)
			}
			if payment.Left(p) != held || payment.Gave(p) != in-back || (p.Stage == api.Closed) != (held == 0) {
				t.Fatalf("%+v with %d held", p, held)
			}
		}
		if p.From != start.From || p.To != start.To || p.Auth != start.Auth || p.Until != start.Until {
			t.Fatalf("%+v, from %+v", p, start)
		}
	}
}
