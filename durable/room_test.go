package durable_test

import (
	"math"
	"slices"
	"testing"

	"hawala/api"
	"hawala/codec"
	"hawala/disk"
	"hawala/durable"
	"hawala/engine"
	"hawala/journal"
	"hawala/ops"
)

// A snapshot is laid while the old one and the records are still there. So the one that is laid for want of room has room only where the frame of the event is longer than its own: the state must be as small as the house's accounts alone, 39 bytes of snapshot, and the event as long as this one, 49 bytes of frame.

// greatest is an event of 43 bytes: no event has more.
func greatest() api.Event {
	return submit(api.Request{Key: ticks - 1, Op: api.OpVoid, A: math.MinInt, B: math.MaxInt, Amount: math.MinInt, Until: ticks})
}

// passed are so many ticks.
func passed(n int) []api.Event { return slices.Repeat([]api.Event{tick()}, n) }

// sizes are the bytes of a standing, of the frame of an event, and of the snapshot that would be next.
func sizes(w standing, e api.Event) (used, frame, next int) {
	for _, text := range w.files() {
		used += len(text)
	}
	return used, len(framed(eventText(e))), len(snapshot(w.turn+1, stateText(w.state())))
}

func TestSizes(t *testing.T) {
	if used, frame, next := sizes(standing{es: passed(3)}, greatest()); used != 21 || frame != 49 || next != 39 {
		t.Error(used, frame, next)
	}
}

// behind is what comes of an event on a disk with so much room.
func behind(w standing, e api.Event, room int) (standing, api.Reply) {
	after, reply := engine.Do(w.state(), e)
	used, frame, next := sizes(w, e)
	switch {
	case equal(after, w.state()):
		return w, reply
	case used+frame <= room:
		return w.with(e), reply
	case used+next > room:
		return w, failure(api.ErrFull)
	case next+frame > room:
		return w.kept(), failure(api.ErrFull)
	}
	return w.kept().with(e), reply
}

// Every room, from what is there on, with so many ticks ahead of the event that a snapshot takes less room than these, or more.
func TestDoInEveryRoom(t *testing.T) {
	// All that may happen: room for the record; none for a snapshot; a snapshot, and room behind it, or too little.
	var fits, none, kept, tooLittle int
	for _, turn := range []int{0, 1, 70} {
		for n := range 13 {
			w := standing{turn: turn, first: ops.New(), es: passed(n)}
			used, _, _ := sizes(w, tick())
			for _, e := range []api.Event{greatest(), tick(), submit(open(1, 2)), step(9, true)} {
				for more := range 100 {
					d := diskWith(t, w.files(), more)
					x := begun(t, d)
					want, reply := behind(w, e, used+more)
					isDone(t, x, "in so much room", e, reply)
					stands(t, x, d, "in so much room", want)
					switch isFull := reply.Err == api.ErrFull; {
					case x.Broken():
						t.Error("Broken for want of room")
					case want.turn == turn && !isFull:
						fits++
					case want.turn == turn:
						none++
					case !isFull:
						kept++
					default:
						tooLittle++
					}
				}
			}
		}
	}
	if fits < 1000 || none < 1000 || kept < 100 || tooLittle < 50 {
		t.Errorf("%d fit, %d have no room at all, %d have it behind a snapshot, %d not even there: too few", fits, none, kept, tooLittle)
	}
}

// The same by hand: ten ticks are 70 bytes, a snapshot has 39, and the event has 49.
func TestDoByHand(t *testing.T) {
	for _, c := range []struct {
		ticks, room int
		reply       api.Errno
		turn        int
		records     int
	}{
		{10, 119, api.ErrUnknown, 0, 11},
		{10, 118, api.ErrUnknown, 1, 1},
		{10, 109, api.ErrUnknown, 1, 1},
		{10, 108, api.ErrFull, 0, 10},
		{10, 70, api.ErrFull, 0, 10},
		{1, 56, api.ErrUnknown, 0, 2},
		{1, 55, api.ErrFull, 1, 0},
		{1, 46, api.ErrFull, 1, 0},
		{1, 45, api.ErrFull, 0, 1},
		{0, 49, api.ErrUnknown, 0, 1},
		{0, 48, api.ErrFull, 1, 0},
		{0, 39, api.ErrFull, 1, 0},
		{0, 38, api.ErrFull, 0, 0},
		{0, 0, api.ErrFull, 0, 0},
	} {
		d := disk.Of(c.room)
		x := begun(t, d)
		for range c.ticks {
			isDone(t, x, "a tick", tick(), api.Reply{})
		}
		isDone(t, x, "by hand", greatest(), failure(c.reply))
		// All of it was safe.
		d.Restart(0)
		for _, x := range []*durable.Engine{x, begun(t, d)} {
			s := x.State()
			known := 0
			if c.reply == api.ErrUnknown {
				known = 1
			}
			if x.Turn() != c.turn || len(x.Records()) != c.records || s.Now != c.ticks || len(s.Known) != known || x.Broken() {
				t.Errorf("%+v: turn %d, %d records, %+v", c, x.Turn(), len(x.Records()), s)
			}
		}
	}
}

// Behind ErrFull the Engine goes on: what changes nothing is told, what takes less room is executed, and so is all of it once there is room.
func TestDoBehindAFullDisk(t *testing.T) {
	w := standing{turn: 2, first: told()}
	d := diskWith(t, w.files(), 20)
	x := begun(t, d)
	isDone(t, x, "no room", greatest(), failure(api.ErrFull))
	isDone(t, x, "no room, again", greatest(), failure(api.ErrFull))
	stands(t, x, d, "no room", w)
	isDone(t, x, "nothing changes", step(77, true), failure(api.ErrUnknown))
	for _, e := range []api.Event{tick(), tick()} {
		isDone(t, x, "room for less", e, api.Reply{})
		w = w.with(e)
	}
	isDone(t, x, "no room", tick(), failure(api.ErrFull))
	stands(t, x, d, "room for less", w)
	roomier := diskWith(t, filesOf(d), 49)
	x = begun(t, roomier)
	isDone(t, x, "room", greatest(), failure(api.ErrUnknown))
	stands(t, x, roomier, "room", w.with(greatest()))
}

// The whole story in each room: each event is executed as a whole, or not at all.
func TestDoOfTheStoryInEveryRoom(t *testing.T) {
	for room := range 450 {
		d := disk.Of(room)
		x := begun(t, d)
		w := standing{}
		for _, s := range story() {
			want, reply := behind(w, s.e, room)
			isDone(t, x, "in so much room", s.e, reply)
			has(t, x, "in so much room", want)
			w = want
		}
		stands(t, x, d, "in so much room", w)
	}
}

// A state that has room in a record, and has none any more with one key more: there can be no snapshot of it.
func TestDoOfATooGreatState(t *testing.T) {
	s := ops.New()
	for k := range 255 {
		r := api.Request{Key: ticks - 300 + k, Op: api.OpVoid, A: math.MinInt, B: math.MinInt, Amount: math.MinInt, Until: ticks}
		s.Known = append(s.Known, api.Known{Request: r, Reply: api.Reply{ID: math.MinInt}, Told: true})
	}
	for range 64 {
		s.Payments = append(s.Payments, api.Payment{From: 64, To: 64, Auth: 1 << 40, Captured: 1 << 40, Refunded: 1 << 39, Charged: 1 << 39, Until: ticks, Stage: api.Closed})
	}
	// With one key more, which takes 45 bytes, there are as many as a record may have, and the turn has one.
	for len(codec.State(s)) < api.MaxRecord-45 {
		s.Accounts = append(s.Accounts, api.Account{Balance: 1 << 50})
	}
	w := standing{turn: 1, first: s}
	d := diskWith(t, w.files(), 49+5)
	x := begun(t, d)
	isDone(t, x, "the last key", greatest(), failure(api.ErrUnknown))
	w = w.with(greatest())
	if n := len(codec.State(x.State())); n < api.MaxRecord || n > api.MaxRecord+20 {
		t.Fatal(n)
	}
	// The last call that comes is Keep: its error is told, not that there is no room.
	isDone(t, x, "no room", tick(), failure(api.ErrArgument))
	wantErr(t, "Keep", x.Keep(), api.ErrArgument)
	stands(t, x, d, "no room", w)
	d.Arm(0)
	isDone(t, x, "no room, armed", tick(), failure(api.ErrArgument))
	wantErr(t, "Keep", x.Keep(), api.ErrArgument)
	if d.Stopped() || x.Broken() {
		t.Error("a state that is too great changed the disk")
	}
	isDone(t, x, "nothing changes", greatest(), failure(api.ErrUnknown))
	// With room the events go on without a snapshot.
	d = diskWith(t, filesOf(d), 7)
	x = begun(t, d)
	isDone(t, x, "room", tick(), api.Reply{})
	stands(t, x, d, "room", w.with(tick()))
}

// P19.3

func TestKeep(t *testing.T) {
	for _, w := range standings() {
		d := diskWith(t, w.files(), 1000)
		x := begun(t, d)
		state := x.State()
		for range 3 {
			wantNil(t, "Keep", x.Keep())
			w = w.kept()
			stands(t, x, d, "kept", w)
			if x.Broken() || !equal(x.State(), state) || string(x.Base()) != stateText(state) {
				t.Errorf("%+v, not %+v", x.State(), state)
			}
		}
		d.Restart(0)
		stands(t, begun(t, d), d, "restarted", w)
		isDone(t, x, "behind it", tick(), api.Reply{})
		stands(t, x, d, "behind it", w.with(tick()))
		wantNil(t, "Keep", x.Keep())
		stands(t, x, d, "kept again", w.with(tick()).kept())
	}
}

func TestKeepByHand(t *testing.T) {
	d := disk.Of(1000)
	x := begun(t, d)
	isDone(t, x, "a tick", tick(), api.Reply{})
	wantNil(t, "Keep", x.Keep())
	wantFiles(t, d, "kept", content{0: framed("\x02\x02\x12\x00\x00\x00\x00\x00\x00\x00\x00\x00\x02\x00\x00\x02\x00\x00\x02\x00\x00\x04\x00\x00\x04\x00\x00\x04\x00\x00\x00\x00\x00")})
}

// Keep is what the Journal's Save does with the state's encoding, also its changes of the disk.
func TestKeepIsSave(t *testing.T) {
	for _, w := range standings() {
		for n := range 6 {
			d, other := diskWith(t, w.files(), 500), diskWith(t, w.files(), 500)
			x := begun(t, d)
			j, err := journal.Open(other)
			wantNil(t, "journal.Open", err)
			d.Arm(n)
			other.Arm(n)
			got, want := x.Keep(), j.Save(codec.State(w.state()))
			if api.Number(got) != api.Number(want) || (got == nil) != (want == nil) || x.Broken() != j.Broken() || x.Turn() != j.Turn() {
				t.Errorf("%v, not %v", got, want)
			}
			wantFiles(t, d, "as Save", filesOf(other))
		}
	}
}

func TestKeepInEveryRoom(t *testing.T) {
	for _, w := range standings() {
		_, _, next := sizes(w, tick())
		for more := range next + 10 {
			d := diskWith(t, w.files(), more)
			x := begun(t, d)
			if more >= next {
				wantNil(t, "room", x.Keep())
				stands(t, x, d, "room", w.kept())
				continue
			}
			wantErr(t, "no room", x.Keep(), api.ErrFull)
			wantErr(t, "no room, again", x.Keep(), api.ErrFull)
			stands(t, x, d, "no room", w)
			if x.Broken() {
				t.Error("Broken for want of room")
			}
		}
	}
}

// On a disk that stops, the snapshot is the old one or the new one; either way the state is the same.
func TestKeepThatIsStopped(t *testing.T) {
	for _, w := range standings() {
		_, _, next := sizes(w, tick())
		changes := 3
		if len(w.es) > 0 {
			changes = 4
		}
		for n := range changes + 1 {
			for keep := range next + 1 {
				d := diskWith(t, w.files(), 500)
				x := begun(t, d)
				state := x.State()
				d.Arm(n)
				err := x.Keep()
				if n < changes {
					wantErr(t, "stopped", err, api.ErrCrash)
					wantErr(t, "Broken", x.Keep(), api.ErrCrash)
					isDone(t, x, "Broken", tick(), failure(api.ErrCrash))
				} else {
					wantNil(t, "not stopped", err)
				}
				if !equal(x.State(), state) || x.Broken() != (n < changes) {
					t.Errorf("%d: %t, %+v, not %+v", n, x.Broken(), x.State(), state)
				}
				d.Restart(keep)
				want := w
				if n > 2 {
					want = w.kept()
				}
				stands(t, begun(t, d), d, "restarted", want)
			}
		}
	}
}

// An Engine that is Broken stays so, and asks the disk for nothing, whatever becomes of it.
func TestKeepOfABrokenOne(t *testing.T) {
	w := standing{turn: 1, first: told()}
	d := diskWith(t, w.files(), 500)
	x := begun(t, d)
	d.Arm(0)
	isDone(t, x, "stopped", tick(), failure(api.ErrCrash))
	wantErr(t, "Broken", x.Keep(), api.ErrCrash)
	d.Restart(0)
	files := filesOf(d)
	d.Arm(0)
	wantErr(t, "Broken, and the disk goes on", x.Keep(), api.ErrCrash)
	if d.Stopped() || !x.Broken() {
		t.Errorf("%t, %t", d.Stopped(), x.Broken())
	}
	wantFiles(t, d, "Broken", files)
	has(t, x, "Broken", w)
}
