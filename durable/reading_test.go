package durable_test

import (
	"encoding/binary"
	"maps"
	"slices"
	"testing"

	"hawala/api"
	"hawala/codec"
	"hawala/disk"
	"hawala/durable"
	"hawala/engine"
	"hawala/ops"
)

// reading is a plain second reading of the chapters 5, 6 and 19: an Engine and its disk in one.
type reading struct {
	room    int
	safe    content // the safe bytes of each file
	loose   content // those behind them; each file has an element here
	left    int     // changes until it stops; below 0, if it is not armed
	stopped bool

	turn    int
	base    string
	records []string
	broken  bool
	state   api.State
}

// change is one change of the disk, unless the disk stops in its place.
func (m *reading) change() bool {
	if m.left == 0 {
		m.stopped = true
	}
	if m.stopped {
		return false
	}
	m.left = max(m.left-1, -1)
	return true
}

func (m *reading) used() int {
	used := 0
	for name, text := range m.loose {
		used += len(m.safe[name]) + len(text)
	}
	return used
}

// write is an Append and a Sync.
func (m *reading) write(name int, text string) api.Errno {
	if !m.stopped && m.used()+len(text) > m.room {
		return api.ErrFull
	}
	if !m.stopped {
		m.loose[name] += text
	}
	if !m.change() || !m.change() {
		return api.ErrCrash
	}
	m.safe[name] += m.loose[name]
	m.loose[name] = ""
	return 0
}

func (m *reading) remove(name int) bool {
	if !m.change() {
		return false
	}
	delete(m.safe, name)
	delete(m.loose, name)
	return true
}

func (m *reading) log(record string) api.Errno {
	err := m.write(2+m.turn, framed(record))
	if err == 0 {
		m.records = append(m.records, record)
	}
	m.broken = m.broken || err == api.ErrCrash
	return err
}

func (m *reading) keep() api.Errno {
	if m.broken {
		return api.ErrCrash
	}
	base := stateText(m.state)
	err := m.write(1, snapshot(m.turn+1, base))
	if err == 0 && m.change() {
		m.safe[0], m.loose[0] = m.safe[1], ""
		delete(m.safe, 1)
		delete(m.loose, 1)
		old := 2 + m.turn
		m.turn, m.base, m.records = m.turn+1, base, nil
		if _, ok := m.loose[old]; ok && !m.remove(old) {
			err = api.ErrCrash
		}
	} else if err == 0 {
		err = api.ErrCrash
	}
	m.broken = m.broken || err == api.ErrCrash
	return err
}

func (m *reading) do(e api.Event) api.Reply {
	if m.broken {
		return failure(api.ErrCrash)
	}
	after, reply := engine.Do(m.state, e)
	if equal(after, m.state) {
		return reply
	}
	err := m.log(eventText(e))
	if err == api.ErrFull {
		err = m.keep()
		if err == 0 {
			err = m.log(eventText(e))
		}
	}
	if err != 0 {
		return failure(err)
	}
	m.state = after
	return reply
}

func (m *reading) restart(keep int) {
	for name, text := range m.loose {
		n := len(text) + 1
		m.safe[name] += text[:(keep%n+n)%n]
		m.loose[name] = ""
	}
	m.stopped, m.left = false, -1
}

// open is false if the disk stops.
func (m *reading) open() bool {
	turn, base := 0, ""
	state := ops.New()
	if text, ok := m.safe[0]; ok {
		n, size := binary.Varint([]byte(text[6:]))
		turn, base = int(n), text[6+size:]
		state, _ = codec.ReadState([]byte(base))
	}
	for _, name := range slices.Sorted(maps.Keys(m.loose)) {
		if name != 0 && name != 2+turn && !m.remove(name) {
			return false
		}
	}
	text := m.safe[2+turn] + m.loose[2+turn]
	records, whole := []string{}, 0
	for len(text) >= whole+6 && len(text) >= whole+6+int(text[whole+1]) {
		size := 6 + int(text[whole+1])
		records = append(records, text[whole+6:whole+size])
		whole += size
	}
	if whole < len(text) {
		if !m.change() {
			return false
		}
		m.safe[2+turn], m.loose[2+turn] = text[:whole], ""
	}
	for _, r := range records {
		e, _ := codec.ReadEvent([]byte(r))
		state, _ = engine.Do(state, e)
	}
	m.turn, m.base, m.records, m.broken, m.state = turn, base, records, false, state
	return true
}

// isAsRead holds an Engine and its disk against the second reading.
func isAsRead(t *testing.T, x *durable.Engine, d *disk.Disk, m *reading) {
	t.Helper()
	records := []string{}
	for _, r := range x.Records() {
		records = append(records, string(r))
	}
	if x.Turn() != m.turn || string(x.Base()) != m.base || !slices.Equal(records, m.records) || x.Broken() != m.broken || !equal(x.State(), m.state) {
		t.Fatalf("turn %d, %d records, %t, %+v, not turn %d, %d records, %t, %+v", x.Turn(), len(records), x.Broken(), x.State(), m.turn, len(m.records), m.broken, m.state)
	}
	files := content{}
	for name := range m.loose {
		files[name] = m.safe[name] + m.loose[name]
	}
	if got := filesOf(d); !maps.Equal(got, files) || d.Stopped() != m.stopped {
		t.Fatalf("the files are %v, not %v; stopped is %t", got, files, d.Stopped())
	}
}

// draw is where the drawn things come from.
type draw uint64

// below is from 0 to n-1.
func (d *draw) below(n int) int {
	*d = *d*6364136223846793005 + 1442695040888963407
	return int(uint64(*d) >> 33 % uint64(n))
}

func (d *draw) of(ns ...int) int { return ns[d.below(len(ns))] }

func (d *draw) request() api.Request {
	r := api.Request{Key: d.of(d.below(12), d.below(200)), Op: api.Op(d.of(d.below(8), 0, 1, 1, 2, 2, 2)), A: 9 + d.below(4), B: 9 + d.below(4), Amount: 1 + d.below(30), Until: d.below(60)}
	switch r.Op {
	case api.OpOpen:
		r.A = d.below(3)
	case api.OpDeposit:
		r.Amount *= 40
	case api.OpTransfer:
		r.Legs = d.below(3)
	case api.OpCapture, api.OpVoid, api.OpRefund, api.OpCharge:
		r.A = d.below(3)
	}
	return r
}

// event is most often one that changes the state.
func (d *draw) event(s api.State) api.Event {
	switch n := d.below(20); {
	case n == 0:
		return api.Event{What: api.What(d.of(-1, 3)), Key: d.below(9)}
	case n == 1:
		return step(d.of(d.below(12), -5, 1<<62+1), true)
	case n == 2:
		return greatest()
	case n < 6:
		return tick()
	case n < 10 && len(s.Known) > 0:
		return submit(s.Known[d.below(len(s.Known))].Request)
	case n < 15 && len(s.Sagas) > 0:
		return step(s.Sagas[d.below(len(s.Sagas))].Request.Key, d.below(3) > 0)
	}
	return submit(d.request())
}

// turns counts what came of the drawn calls.
type turns struct{ done, unchanged, crashes, whole, full, kept, saved, opened, stopped int }

func (c turns) areFew() bool {
	return slices.Min([]int{c.done, c.unchanged, c.crashes, c.whole, c.full, c.kept, c.saved, c.opened, c.stopped}) < 20
}

// arm has the disk stop soon.
func arm(d *disk.Disk, m *reading, n int) {
	d.Arm(n)
	m.left = n
}

// reopen opens the disk anew; one that has stopped goes on first, and may stop again while it is opened.
func reopen(t *testing.T, d *disk.Disk, m *reading, dr *draw, c *turns) *durable.Engine {
	t.Helper()
	before := m.state
	restart := func() {
		keep := dr.of(dr.below(60), -1)
		d.Restart(keep)
		m.restart(keep)
	}
	if m.stopped || m.broken {
		restart()
		if n := dr.below(4); n < 2 {
			arm(d, m, n)
		}
	}
	for !m.open() {
		c.stopped++
		wantNone(t, d, "stopped", api.ErrCrash)
		restart()
	}
	c.opened++
	if !equal(before, m.state) {
		c.whole++
	}
	return begun(t, d)
}

// askDrawn has one event be done, and counts what came of it.
func askDrawn(t *testing.T, x *durable.Engine, m *reading, e api.Event, c *turns) {
	t.Helper()
	before, turn := m.state, m.turn
	reply := m.do(e)
	isDone(t, x, "drawn", e, reply)
	switch {
	case m.broken:
		c.crashes++
	case reply.Err == api.ErrFull:
		c.full++
	case equal(before, m.state):
		c.unchanged++
	case m.turn > turn:
		c.kept++
	default:
		c.done++
	}
}

// nextDrawn is most often any event. On a disk that is small, one comes for which there is room behind a snapshot.
func nextDrawn(m *reading, dr *draw) api.Event {
	if len(m.state.Accounts) > 9 || len(m.state.Known) > 0 || m.room > 160 {
		return dr.event(m.state)
	}
	if left := m.room - m.used(); left >= 39 && left < 49 {
		return greatest()
	}
	return tick()
}

// Drawn events, snapshots and stops on drawn disks: after each call the Engine and the disk are as the second reading has them.
func TestDrawnHistories(t *testing.T) {
	dr, c := draw(19), turns{}
	for range 600 {
		room := dr.of(40+dr.below(120), 100+dr.below(500), 3000)
		d := disk.Of(room)
		m := &reading{room: room, safe: content{}, loose: content{}, left: -1, state: ops.New()}
		x := begun(t, d)
		for range 60 {
			switch n := dr.below(30); {
			case n == 0:
				err := x.Keep()
				if want := m.keep(); api.Number(err) != want || (err == nil) != (want == 0) {
					t.Fatalf("Keep: %v, not %v", err, want)
				}
				if !m.broken {
					c.saved++
				}
			case n == 1 && !m.stopped:
				arm(d, m, dr.below(12))
			case n == 2 || m.broken && n < 20:
				x = reopen(t, d, m, &dr, &c)
			default:
				askDrawn(t, x, m, nextDrawn(m, &dr), &c)
			}
			isAsRead(t, x, d, m)
		}
	}
	if c.areFew() {
		t.Errorf("too few: %+v", c)
	}
}
