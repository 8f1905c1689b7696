package durable_test

import (
	"math"
	"slices"
	"testing"

	"hawala/api"
	"hawala/disk"
	"hawala/engine"
	"hawala/ops"
)

// P19.1: what is opened

func TestOpenOfNothing(t *testing.T) {
	for _, room := range []int{-1, 0, 1, 1000, math.MaxInt} {
		d := disk.Of(room)
		// There is nothing to do, so not one change may come.
		d.Arm(0)
		x := begun(t, d)
		stands(t, x, d, "nothing", standing{})
		s := x.State()
		if len(s.Accounts) != 9 || s.Accounts[4] != (api.Account{Cur: 1}) || len(s.Payments)+len(s.Sagas)+len(s.Known) != 0 || s.Now != 0 || d.Stopped() {
			t.Errorf("%+v", s)
		}
	}
	stands(t, begun(t, new(disk.Disk)), new(disk.Disk), "a zero disk", standing{})
}

// The bytes are written out by hand: no code of the program made them.
func TestOpenOfBytesByHand(t *testing.T) {
	// A tick; an account of the currency 2, by the key 1; a step of no saga.
	files := content{2: framed("\x04", "\x00\x02\x00\x04\x00\x00\x00\x00", "\x02\x0a\x02", "\x04")}
	want := ops.New()
	want.Accounts = append(want.Accounts, api.Account{Cur: 2})
	want.Known = []api.Known{{Request: open(1, 2), Reply: api.Reply{ID: 9}, Told: true}}
	want.Now = 2
	x := begun(t, diskWith(t, files, 0))
	if s := x.State(); !equal(s, want) || x.Turn() != 0 || len(x.Records()) != 4 {
		t.Errorf("%+v, not %+v", s, want)
	}
	// The tick 64, the house's accounts, no payments, no sagas, and the key 3, which was told.
	base := "\x80\x01\x12\x00\x00\x00\x00\x00\x00\x00\x00\x00\x02\x00\x00\x02\x00\x00\x02\x00\x00\x04\x00\x00\x04\x00\x00\x04\x00\x00\x00\x00\x02\x06\x00\x00\x00\x00\x00\x00\x00\x12\x02"
	files = content{0: snapshot(3, base), 5: framed("\x04")}
	want = ops.New()
	want.Known = []api.Known{{Request: open(3, 0), Reply: api.Reply{ID: 9}, Told: true}}
	want.Now = 65
	x = begun(t, diskWith(t, files, 0))
	if s := x.State(); !equal(s, want) || x.Turn() != 3 || string(x.Base()) != base || len(x.Records()) != 1 {
		t.Errorf("%+v, not %+v", s, want)
	}
}

func TestOpenOfTheStory(t *testing.T) {
	all := story()
	d := diskWith(t, standing{es: laid(all)}.files(), 0)
	if s := begun(t, d).State(); !equal(s, told()) {
		t.Errorf("%+v, not\n%+v", s, told())
	}
	d = diskWith(t, standing{turn: 5, first: told()}.files(), 0)
	if s := begun(t, d).State(); !equal(s, told()) {
		t.Errorf("%+v, not\n%+v", s, told())
	}
	// Wherever the snapshot comes between.
	es := laid(all)
	for k := range len(es) + 1 {
		first, _ := engine.Run(ops.New(), es[:k])
		d := diskWith(t, standing{turn: 1, first: first, es: es[k:]}.files(), 0)
		if s := begun(t, d).State(); !equal(s, told()) {
			t.Errorf("a snapshot behind %d: %+v, not\n%+v", k, s, told())
		}
	}
}

func TestOpenOfStandings(t *testing.T) {
	for _, w := range standings() {
		d := diskWith(t, w.files(), 0)
		d.Arm(0)
		x := begun(t, d)
		if d.Stopped() {
			t.Error("Open changed the disk")
		}
		stands(t, x, d, "opened", w)
	}
}

// Also a record that changes nothing is executed, and events are executed in their order: a step ahead of its request finds no saga.
func TestOpenInOrder(t *testing.T) {
	es := []api.Event{submit(open(1, 0)), submit(open(2, 0)), submit(deposit(3, 9, 50)), submit(transfer(4, 9, 10, 30, 1)), step(4, true), step(4, true)}
	for _, order := range [][]int{{0, 1, 2, 3, 4, 5}, {0, 1, 3, 2, 4, 5}, {5, 4, 3, 2, 1, 0}, {4, 0, 1, 2, 5, 3}, {0, 0, 1, 1, 2, 2, 3, 3, 4, 4, 5, 5}} {
		w := standing{}
		for _, k := range order {
			w = w.with(es[k])
		}
		stands(t, begun(t, diskWith(t, w.files(), 0)), diskWith(t, w.files(), 0), "in another order", w)
	}
}

func TestOpenOfTheGreatestTurns(t *testing.T) {
	for _, turn := range []int{1, 63, 64, 1 << 40, math.MaxInt - 2, math.MaxInt - 1, math.MaxInt} {
		w := standing{turn: turn, first: told(), es: []api.Event{tick()}}
		stands(t, begun(t, diskWith(t, w.files(), 0)), diskWith(t, w.files(), 0), "a great turn", w)
	}
}

// P19.1: errors of the form

// wrongBases are none of states.
func wrongBases() []string {
	right := stateText(told())
	bases := []string{"", "x", "\x00", right + "\x00", right + right, "\x00" + right, eventText(tick()), eventText(submit(open(1, 0))), snapshot(1, right), framed(right), stateText(api.State{})}
	for k := range right {
		bases = append(bases, right[:k])
	}
	for _, change := range []func(s *api.State){
		func(s *api.State) { s.Now = -1 },
		func(s *api.State) { s.Now = ticks + 1 },
		func(s *api.State) { s.Accounts = s.Accounts[:8] },
		func(s *api.State) { s.Accounts[9].Held = 21 },
		func(s *api.State) { s.Payments[0].Refunded = 1 },
		func(s *api.State) { s.Payments[0].From = 65 },
		func(s *api.State) { s.Sagas[0].Leg = 4 },
		func(s *api.State) { s.Known[0].Request.A = 3 },
		func(s *api.State) { s.Known[0].Reply.Err = 14 },
	} {
		s := told()
		change(&s)
		bases = append(bases, stateText(s))
	}
	return bases
}

func TestOpenOfAWrongBase(t *testing.T) {
	for _, base := range wrongBases() {
		for _, records := range [][]string{nil, {eventText(tick())}, {"none"}} {
			files := content{0: snapshot(2, base), 4: framed(records...)}
			d := diskWith(t, files, 0)
			d.Arm(0)
			wantNone(t, d, "a wrong base", api.ErrForm)
			wantFiles(t, d, "a wrong base", files)
			if d.Stopped() {
				t.Error("Open changed the disk")
			}
		}
	}
}

// wrongRecords are none of events.
func wrongRecords() []string {
	right := []string{"\x04", "\x02\x0a\x02", "\x00\x02\x04\x12\x14\x0a\x02\x00"}
	records := []string{"", "\x06", "\x01", "x", "\x84\x00", "\x02\x0a\x04", stateText(ops.New()), framed("\x04")}
	for _, r := range right {
		records = append(records, r+"\x00", r+r, "\x00"+r)
		for k := range r {
			records = append(records, r[:k])
		}
	}
	for _, e := range []api.Event{{What: -1}, {What: 3}, {What: math.MaxInt}, step(1<<62+1, true), step(-1<<62-1, false), step(math.MinInt, true), submit(open(-1, 0)), submit(open(1, 3)), submit(deposit(ticks, 9, 5)), submit(transfer(1, 9, 10, 5, 5)), submit(api.Request{Op: 8, Amount: 1})} {
		records = append(records, eventText(e))
	}
	return records
}

func TestOpenOfAWrongRecord(t *testing.T) {
	others := eventTexts(laid(story())[:5])
	for _, wrong := range wrongRecords() {
		for k := range len(others) + 1 {
			for _, w := range []standing{{}, {turn: 1, first: told()}} {
				files := w.files()
				files[2+w.turn] = framed(slices.Insert(slices.Clone(others), k, wrong)...)
				d := diskWith(t, files, 0)
				d.Arm(0)
				wantNone(t, d, "a wrong record", api.ErrForm)
				wantFiles(t, d, "a wrong record", files)
			}
		}
	}
}

// The steps and requests at the edges are events, and can be opened, though they change nothing.
func TestOpenOfRecordsThatChangeNothing(t *testing.T) {
	w := standing{es: []api.Event{step(1<<62, true), step(-1<<62, false), step(0, true), submit(open(ticks-1, 2)), submit(open(ticks-1, 2)), submit(open(ticks-1, 1))}}
	d := diskWith(t, w.files(), 0)
	stands(t, begun(t, d), d, "nothing changes", w)
}

// P19.1: errors of journal.Open

func TestOpenOfNoSnapshot(t *testing.T) {
	good := snapshot(1, stateText(ops.New()))
	for _, file := range []string{"", "?", good + "\x00", good[:len(good)-1], good[1:], snapshot(0, stateText(ops.New())), snapshot(-1, stateText(ops.New())), framed("")} {
		files := content{0: file, 1: "next", 2: framed("\x04"), 3: framed("\x04") + "torn", 9: "?"}
		d := diskWith(t, files, 0)
		wantNone(t, d, "no snapshot", api.ErrForm)
		wantFiles(t, d, "no snapshot", files)
	}
}

// Files of other turns go, and so does what is torn; it is no event that would have been executed.
func TestOpenAmidOtherFiles(t *testing.T) {
	for _, w := range standings() {
		for _, torn := range []string{"?", framed("\x04")[:6], framed("none")[:9], framed("\x04")[:5] + "?\x04"} {
			files := w.files()
			files[2+w.turn] += torn
			files[1], files[-4], files[3+w.turn], files[999] = snapshot(w.turn+1, "next"), "x", framed("\x04"), framed("none")
			d := diskWith(t, files, 0)
			x := begun(t, d)
			has(t, x, "amid other files", w)
			left := w.files()
			left[2+w.turn] += ""
			wantFiles(t, d, "amid other files", left)
		}
	}
}

// A stop is told ahead of what is wrong with base and records: these are not even looked at.
func TestOpenThatIsStopped(t *testing.T) {
	right := standing{turn: 2, first: told(), es: []api.Event{tick(), step(9, true)}}
	wrong := right.files()
	wrong[0], wrong[4] = snapshot(2, "none"), framed("none")
	for k, files := range []content{right.files(), wrong} {
		for n := range 5 {
			d := diskWith(t, files, 1000)
			put(t, d, content{-1: "x", 1: "?", 7: ""})
			put(t, d, content{4: "torn"})
			d.Arm(n)
			if n < 4 {
				wantNone(t, d, "stopped", api.ErrCrash)
				wantNone(t, d, "stopped, and asked again", api.ErrCrash)
				d.Restart(n)
			}
			if k > 0 {
				wantNone(t, d, "restarted", api.ErrForm)
				wantFiles(t, d, "restarted", wrong)
				continue
			}
			stands(t, begun(t, d), d, "restarted", right)
		}
	}
}

// A disk that has stopped can be read: where nothing is to be removed or cut, there is an Engine.
func TestOpenOfAStoppedDisk(t *testing.T) {
	for _, w := range standings() {
		d := diskWith(t, w.files(), 9)
		d.Arm(0)
		wantErr(t, "the stop", d.Append(2+w.turn, nil), api.ErrCrash)
		files := filesOf(d)
		x := begun(t, d)
		has(t, x, "stopped", w)
		isDone(t, x, "stopped", step(77, true), failure(api.ErrUnknown))
		isDone(t, x, "stopped", tick(), failure(api.ErrCrash))
		has(t, x, "stopped", w)
		wantFiles(t, d, "stopped", files)
		if !x.Broken() {
			t.Error("not Broken")
		}
	}
}

// Two Engines have nothing of one another.
func TestOpenTwice(t *testing.T) {
	w := standing{turn: 2, first: told(), es: []api.Event{tick()}}
	d := diskWith(t, w.files(), 100)
	x, y := begun(t, d), begun(t, d)
	scribble(x.State())
	isDone(t, x, "the one", step(9, true), failure(api.ErrPending))
	has(t, x, "the one", w.with(step(9, true)))
	has(t, y, "the other one", w)
}
