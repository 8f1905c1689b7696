package durable_test

import (
	"maps"
	"testing"

	"hawala/api"
	"hawala/disk"
	"hawala/durable"
	"hawala/engine"
	"hawala/ops"
)

// P19.2, on a disk that stops

// isBroken asks that an Engine be as it was ahead of the event at which the disk stopped, and that it do nothing any more. The turn may have gone on.
func isBroken(t *testing.T, x *durable.Engine, d *disk.Disk, when string, e api.Event, want standing) {
	t.Helper()
	has(t, x, when, want)
	files := filesOf(d)
	for _, e := range []api.Event{e, tick(), step(77, true), submit(open(1, 0)), submit(open(-1, 0)), {What: 3}} {
		isDone(t, x, when+", Broken", e, failure(api.ErrCrash))
	}
	wantErr(t, when+", Broken", x.Keep(), api.ErrCrash)
	if !x.Broken() {
		t.Error(when + ": not Broken")
	}
	has(t, x, when+", Broken", want)
	wantFiles(t, d, when+", Broken", files)
}

// isLeft opens a disk that was restarted. The file of the records may be there without one.
func isLeft(t *testing.T, d *disk.Disk, when string, want standing) *durable.Engine {
	t.Helper()
	x := begun(t, d)
	has(t, x, when, want)
	files := filesOf(d)
	maps.DeleteFunc(files, func(name int, text string) bool { return name == 2+want.turn && text == "" })
	if !maps.Equal(files, want.files()) {
		t.Errorf("%s: the files are %v, not %v", when, files, want.files())
	}
	return x
}

// isAsked asks for the reply on how a disk stands.
func isAsked(t *testing.T, x *durable.Engine, when string, e api.Event, w standing) {
	t.Helper()
	after, reply := engine.Do(w.state(), e)
	isDone(t, x, when, e, reply)
	if s := x.State(); !equal(s, after) {
		t.Errorf("%s: %+v, not %+v", when, s, after)
	}
}

// The example of the chapter.
func TestDoThatIsStoppedAtTheSync(t *testing.T) {
	d := disk.Of(1000)
	x := begun(t, d)
	d.Arm(1)
	isDone(t, x, "at the Sync", submit(open(1, 2)), failure(api.ErrCrash))
	if s := x.State(); len(s.Accounts) != 9 || len(s.Known) != 0 {
		t.Errorf("%+v", s)
	}
	d.Restart(-1)
	x = begun(t, d)
	if s := x.State(); len(s.Accounts) != 10 || s.Accounts[9] != (api.Account{Cur: 2}) || len(s.Known) != 1 {
		t.Errorf("%+v", s)
	}
	isDone(t, x, "asked again", submit(open(1, 2)), api.Reply{ID: 9})
	if n := len(x.State().Accounts); n != 10 || len(x.Records()) != 1 {
		t.Error(n, len(x.Records()))
	}
}

// At both changes of an Append, with each number of bytes that are kept: the event is executed if all of them are, and not at all without one.
func TestDoThatIsStopped(t *testing.T) {
	for _, w := range standings() {
		for _, e := range []api.Event{tick(), greatest(), submit(open(20, 1)), submit(deposit(20, 8, 3)), submit(transfer(20, 10, 9, 2, 1)), step(9, true)} {
			after, reply := engine.Do(w.state(), e)
			if equal(after, w.state()) {
				continue
			}
			_, frame, _ := sizes(w, e)
			for n := range 2 {
				for keep := -2; keep < frame+2; keep++ {
					d := diskWith(t, w.files(), 100)
					x := begun(t, d)
					d.Arm(n)
					isDone(t, x, "stopped", e, failure(api.ErrCrash))
					isBroken(t, x, d, "stopped", e, w)
					d.Restart(keep)
					isBroken(t, x, d, "stopped, and the disk goes on", e, w)
					want := w
					if keep == -1 || keep == frame {
						want = w.with(e)
					}
					y := isLeft(t, d, "opened anew", want)
					if e.What == api.Submit {
						isDone(t, y, "asked again", e, reply)
					}
					isAsked(t, y, "asked again", e, want)
				}
			}
		}
	}
}

// Where Keep comes between, it is executed as a whole, or not at all, too: four changes are those of Keep, two those of the Append behind it.
func TestDoThatIsStoppedBehindAFullDisk(t *testing.T) {
	e := greatest()
	for _, turn := range []int{0, 3} {
		w := standing{turn: turn, first: ops.New(), es: passed(10)}
		used, frame, next := sizes(w, e)
		for n := range 7 {
			for keep := range max(frame, next) + 1 {
				d := diskWith(t, w.files(), next)
				x := begun(t, d)
				d.Arm(n)
				if n == 6 {
					isDone(t, x, "not stopped", e, failure(api.ErrUnknown))
					stands(t, x, d, "not stopped", w.kept().with(e))
					continue
				}
				isDone(t, x, "stopped", e, failure(api.ErrCrash))
				now, want := w, w
				if n > 2 {
					now, want = w.kept(), w.kept()
				}
				if n > 3 && keep == frame {
					want = want.with(e)
				}
				isBroken(t, x, d, "stopped", e, now)
				if !equal(x.State(), w.state()) {
					t.Errorf("%d: %+v, not %+v", n, x.State(), w.state())
				}
				if n < 2 && d.Used() != used+next {
					t.Errorf("%d: %d bytes", n, d.Used())
				}
				d.Restart(keep)
				y := isLeft(t, d, "opened anew", want)
				isAsked(t, y, "asked again", e, want)
			}
		}
	}
}

// Where there is too little room even behind Keep, the event is not executed, wherever the disk stops.
func TestDoThatIsStoppedOnAFullDisk(t *testing.T) {
	e := greatest()
	for _, turn := range []int{0, 3} {
		w := standing{turn: turn, first: ops.New(), es: passed(1)}
		_, _, next := sizes(w, e)
		for n := range 6 {
			for keep := range next + 1 {
				d := diskWith(t, w.files(), next)
				x := begun(t, d)
				d.Arm(n)
				want, reply := w, failure(api.ErrCrash)
				if n > 2 {
					want = w.kept()
				}
				if n > 3 {
					reply = failure(api.ErrFull)
				}
				isDone(t, x, "too little room", e, reply)
				has(t, x, "too little room", want)
				if x.Broken() != (n < 4) {
					t.Errorf("%d: Broken is %t", n, x.Broken())
				}
				d.Restart(keep)
				isLeft(t, d, "opened anew", want)
			}
		}
	}
}

// Without room, neither the Append nor the one of Keep is a change: a disk that would stop at the next one does not.
func TestDoOnAFullDiskThatIsArmed(t *testing.T) {
	w := standing{turn: 1, first: told(), es: []api.Event{tick()}}
	d := diskWith(t, w.files(), 6)
	x := begun(t, d)
	d.Arm(0)
	isDone(t, x, "no room", tick(), failure(api.ErrFull))
	wantErr(t, "no room", x.Keep(), api.ErrFull)
	if d.Stopped() || x.Broken() {
		t.Error("stopped")
	}
	wantErr(t, "the stop", d.Sync(0), api.ErrCrash)
	isDone(t, x, "stopped", tick(), failure(api.ErrCrash))
	isBroken(t, x, d, "stopped", tick(), w)
}

// The story, with a stop at each change, and each part kept of what was being written then. What was told stays true: a request that is asked again has the reply of the first time, and each event is executed once.
func TestTheStoryWithAStop(t *testing.T) {
	changes := 2 * len(laid(story()))
	for n := range changes + 1 {
		for _, keep := range []int{0, 1, 6, 8, 13, 14, 15, -2, -1} {
			for _, keeps := range []bool{false, true} {
				d := disk.Of(5000)
				d.Arm(n)
				x := begun(t, d)
				stops := 0
				for k, s := range story() {
					if keeps && k%4 == 3 {
						if x.Keep() != nil {
							stops++
							d.Restart(keep)
							x = begun(t, d)
						}
					}
					before := x.State()
					reply := x.Do(s.e)
					if reply.Err == api.ErrCrash {
						stops++
						d.Restart(keep)
						x = begun(t, d)
						// A step or a tick that was executed must not come again; a request may.
						if s.e.What != api.Submit && !equal(x.State(), before) {
							continue
						}
						reply = x.Do(s.e)
					}
					if reply != s.reply {
						t.Errorf("stopped at %d, %d kept: %+v: %+v, not %+v", n, keep, s.e, reply, s.reply)
					}
				}
				if s := x.State(); !equal(s, told()) || !equal(begun(t, d).State(), s) {
					t.Errorf("stopped at %d, %d kept: %+v, not\n%+v", n, keep, s, told())
				}
				if n < changes && stops != 1 || !keeps && n == changes && stops != 0 {
					t.Errorf("%d: %d stops", n, stops)
				}
			}
		}
	}
}
