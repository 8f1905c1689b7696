package durable_test

import (
	"encoding/binary"
	"errors"
	"fmt"
	"hash/crc32"
	"maps"
	"slices"
	"strings"
	"testing"

	"hawala/api"
	"hawala/codec"
	"hawala/disk"
	"hawala/durable"
	"hawala/engine"
	"hawala/ops"
)

const ticks = 1 << 30

// content are the files of a disk, by their numbers.
type content map[int]string

// String is all of it, with the beginnings of long files.
func (c content) String() string {
	var all []string
	for _, name := range slices.Sorted(maps.Keys(c)) {
		all = append(all, fmt.Sprintf("%d:%.100q", name, c[name]))
	}
	return "{" + strings.Join(all, " ") + "}"
}

// framed are records in frames, one behind the other, made by the library.
func framed(records ...string) string {
	var b []byte
	for _, r := range records {
		b = binary.BigEndian.AppendUint16(b, uint16(len(r)))
		b = binary.BigEndian.AppendUint32(b, crc32.ChecksumIEEE([]byte(r)))
		b = append(b, r...)
	}
	return string(b)
}

// snapshot is a file 0, with a turn that the library encodes.
func snapshot(turn int, base string) string {
	return framed(string(binary.AppendVarint(nil, int64(turn))) + base)
}

func stateText(s api.State) string { return string(codec.State(s)) }

func eventText(e api.Event) string { return string(codec.Event(e)) }

func eventTexts(es []api.Event) []string {
	texts := []string{}
	for _, e := range es {
		texts = append(texts, eventText(e))
	}
	return texts
}

// Events and requests.

func submit(r api.Request) api.Event { return api.Event{What: api.Submit, Request: r} }

func step(key int, ok bool) api.Event { return api.Event{What: api.Step, Key: key, OK: ok} }

func tick() api.Event { return api.Event{What: api.Tick} }

func open(key, cur int) api.Request { return api.Request{Key: key, Op: api.OpOpen, A: cur} }

func deposit(key, a, n int) api.Request {
	return api.Request{Key: key, Op: api.OpDeposit, A: a, Amount: n}
}

func transfer(key, a, b, n, legs int) api.Request {
	return api.Request{Key: key, Op: api.OpTransfer, A: a, B: b, Amount: n, Legs: legs}
}

func auth(key, a, b, n, until int) api.Request {
	return api.Request{Key: key, Op: api.OpAuth, A: a, B: b, Amount: n, Until: until}
}

func failure(err api.Errno) api.Reply { return api.Reply{Err: err} }

// said is an event, what is told of it, and whether the state behind it is another one.
type said struct {
	e       api.Event
	reply   api.Reply
	changes bool
}

// story has events of each What. The saga of the key 5 is settled, that of 6 turns back, and that of 9 goes on.
func story() []said {
	settled, turned, goesOn := transfer(5, 9, 10, 30, 1), transfer(6, 9, 10, 10, 2), transfer(9, 10, 9, 7, 3)
	short := transfer(4, 9, 10, 60, 0)
	return []said{
		{submit(open(1, 0)), api.Reply{ID: 9}, true},
		{submit(open(2, 0)), api.Reply{ID: 10}, true},
		{submit(open(2, 0)), api.Reply{ID: 10}, false},
		{submit(open(2, 1)), failure(api.ErrKey), false},
		{submit(deposit(3, 9, 50)), api.Reply{}, true},
		{submit(short), failure(api.ErrInsufficient), true},
		{submit(short), failure(api.ErrInsufficient), false},
		{submit(settled), failure(api.ErrPending), true},
		{submit(settled), failure(api.ErrPending), false},
		{step(5, true), failure(api.ErrPending), true},
		{submit(turned), failure(api.ErrPending), true},
		{step(6, false), failure(api.ErrPending), true},
		{step(5, false), api.Reply{}, true},
		{step(5, false), failure(api.ErrUnknown), false},
		{submit(settled), api.Reply{}, false},
		{step(6, true), failure(api.ErrPending), true},
		{step(6, false), failure(api.ErrPending), true},
		{step(6, false), failure(api.ErrPending), true},
		{step(6, false), failure(api.ErrPending), true},
		{step(6, false), failure(api.ErrPending), true},
		{step(6, true), failure(api.ErrLeg), true},
		{submit(turned), failure(api.ErrLeg), false},
		{submit(auth(7, 10, 9, 25, 1)), api.Reply{ID: 0}, true},
		{tick(), api.Reply{}, true},
		{submit(api.Request{Key: 8, Op: api.OpCapture, Amount: 5}), failure(api.ErrState), true},
		{api.Event{What: -1}, failure(api.ErrBad), false},
		{api.Event{What: 3, Key: 9, OK: true}, failure(api.ErrBad), false},
		{submit(open(-1, 0)), failure(api.ErrBad), false},
		{submit(goesOn), failure(api.ErrPending), true},
		{step(9, false), failure(api.ErrPending), true},
		{step(1<<62+1, true), failure(api.ErrUnknown), false},
	}
}

// told is what the story comes to, written out by hand.
func told() api.State {
	return api.State{
		Accounts: []api.Account{
			{Cur: 0, Balance: -50}, {Cur: 0}, {Cur: 0},
			{Cur: 1}, {Cur: 1}, {Cur: 1},
			{Cur: 2}, {Cur: 2}, {Cur: 2},
			{Cur: 0, Balance: 20}, {Cur: 0, Balance: 30, Held: 7},
		},
		Payments: []api.Payment{{From: 10, To: 9, Auth: 25, Until: 1, Stage: api.Closed}},
		Sagas:    []api.Saga{{Request: transfer(9, 10, 9, 7, 3), Tries: 1}},
		Known: []api.Known{
			{Request: open(1, 0), Reply: api.Reply{ID: 9}, Told: true},
			{Request: open(2, 0), Reply: api.Reply{ID: 10}, Told: true},
			{Request: deposit(3, 9, 50), Told: true},
			{Request: transfer(4, 9, 10, 60, 0), Reply: failure(api.ErrInsufficient), Told: true},
			{Request: transfer(5, 9, 10, 30, 1), Told: true},
			{Request: transfer(6, 9, 10, 10, 2), Reply: failure(api.ErrLeg), Told: true},
			{Request: auth(7, 10, 9, 25, 1), Told: true},
			{Request: api.Request{Key: 8, Op: api.OpCapture, Amount: 5}, Reply: failure(api.ErrState), Told: true},
			{Request: transfer(9, 10, 9, 7, 3)},
		},
		Now: 1,
	}
}

// laid are those events of the first ones of the story that change the state: a disk has no other ones.
func laid(first []said) []api.Event {
	es := []api.Event{}
	for _, d := range first {
		if d.changes {
			es = append(es, d.e)
		}
	}
	return es
}

// States.

func equal(s, u api.State) bool {
	return slices.Equal(s.Accounts, u.Accounts) && slices.Equal(s.Payments, u.Payments) &&
		slices.Equal(s.Sagas, u.Sagas) && slices.Equal(s.Known, u.Known) && s.Now == u.Now
}

func clone(s api.State) api.State {
	s.Accounts = slices.Clone(s.Accounts)
	s.Payments = slices.Clone(s.Payments)
	s.Sagas = slices.Clone(s.Sagas)
	s.Known = slices.Clone(s.Known)
	return s
}

// over writes over a slice, and over the room behind it.
func over[E any](es []E, e E) {
	es = es[:cap(es)]
	for k := range es {
		es[k] = e
	}
}

func scribble(s api.State) {
	over(s.Accounts, api.Account{Cur: 71, Balance: 72, Held: 73})
	over(s.Payments, api.Payment{From: 81, To: 82, Auth: 83})
	over(s.Sagas, api.Saga{Leg: 91, Tries: 92})
	over(s.Known, api.Known{Request: api.Request{Key: 94}})
}

// Disks.

func put(t *testing.T, d *disk.Disk, files content) {
	t.Helper()
	for name, text := range files {
		if err := errors.Join(d.Append(name, []byte(text)), d.Sync(name)); err != nil {
			t.Fatal(err)
		}
	}
}

// diskWith has files, and so much more room.
func diskWith(t *testing.T, files content, more int) *disk.Disk {
	t.Helper()
	size := 0
	for _, text := range files {
		size += len(text)
	}
	d := disk.Of(size + more)
	put(t, d, files)
	return d
}

func filesOf(d *disk.Disk) content {
	files := content{}
	for _, name := range d.Names() {
		b, _ := d.Read(name)
		files[name] = string(b)
	}
	return files
}

func copyOf(t *testing.T, d *disk.Disk) *disk.Disk {
	t.Helper()
	return diskWith(t, filesOf(d), 1000)
}

// standing is how a disk stands: the turn, the state that the snapshot has, from turn 1 on, and the events behind it.
type standing struct {
	turn  int
	first api.State
	es    []api.Event
}

// files are those of a standing. The file of the records is made by the first of them.
func (w standing) files() content {
	files := content{}
	if w.turn > 0 {
		files[0] = snapshot(w.turn, stateText(w.first))
	}
	if len(w.es) > 0 {
		files[2+w.turn] = framed(eventTexts(w.es)...)
	}
	return files
}

func (w standing) state() api.State {
	s := ops.New()
	if w.turn > 0 {
		s = w.first
	}
	s, _ = engine.Run(s, w.es)
	return s
}

// with is a standing behind one more event.
func (w standing) with(e api.Event) standing {
	w.es = append(slices.Clone(w.es), e)
	return w
}

// kept is a standing behind one more snapshot.
func (w standing) kept() standing { return standing{turn: w.turn + 1, first: w.state()} }

// standings are some with sagas, and some without.
func standings() []standing {
	es := laid(story())
	s, _ := engine.Run(ops.New(), es)
	return []standing{
		{}, {es: es[:1]}, {es: es},
		{turn: 1, first: ops.New()}, {turn: 1, first: s}, {turn: 7, first: s, es: []api.Event{tick(), step(9, true), tick()}},
		{turn: 300, first: ops.New(), es: es[:8]},
	}
}

func begun(t *testing.T, d *disk.Disk) *durable.Engine {
	t.Helper()
	x, err := durable.Open(d)
	if err != nil || x == nil {
		t.Fatalf("Open: %v, %v; the files are %v", x, err, filesOf(d))
	}
	if x.Broken() {
		t.Error("just opened, and Broken")
	}
	return x
}

func wantNone(t *testing.T, d *disk.Disk, when string, want api.Errno) {
	t.Helper()
	x, err := durable.Open(d)
	if x != nil || !errors.Is(err, want) {
		t.Errorf("%s: Open = %v, %v, not %v", when, x, err, want)
	}
}

func wantErr(t *testing.T, when string, err error, want api.Errno) {
	t.Helper()
	if !errors.Is(err, want) {
		t.Errorf("%s: %v, not %v", when, err, want)
	}
}

func wantNil(t *testing.T, when string, err error) {
	t.Helper()
	if err != nil {
		t.Errorf("%s: %v", when, err)
	}
}

func wantFiles(t *testing.T, d *disk.Disk, when string, want content) {
	t.Helper()
	if got := filesOf(d); !maps.Equal(got, want) {
		t.Errorf("%s: the files are %v, not %v", when, got, want)
	}
}

// has checks all that an Engine tells: its own journal, and the one that is promoted, tell the same.
func has(t *testing.T, x *durable.Engine, when string, want standing) {
	t.Helper()
	base := ""
	if want.turn > 0 {
		base = stateText(want.first)
	}
	records := []string{}
	for _, r := range x.Records() {
		records = append(records, string(r))
	}
	if x.Turn() != want.turn || string(x.Base()) != base || !slices.Equal(records, eventTexts(want.es)) {
		t.Errorf("%s: %d, %x, %x, not %d, %x, %x", when, x.Turn(), x.Base(), records, want.turn, base, eventTexts(want.es))
	}
	j := x.Journal
	if j.Turn() != want.turn || string(j.Base()) != base || !slices.EqualFunc(j.Records(), x.Records(), slices.Equal) || j.Broken() != x.Broken() {
		t.Errorf("%s: the journal has %d, %x, %x", when, j.Turn(), j.Base(), j.Records())
	}
	if s := x.State(); !equal(s, want.state()) {
		t.Errorf("%s: %+v, not\n%+v", when, s, want.state())
	}
}

// stands checks an Engine and its disk, and that one that is opened anew has the same.
func stands(t *testing.T, x *durable.Engine, d *disk.Disk, when string, want standing) {
	t.Helper()
	has(t, x, when, want)
	wantFiles(t, d, when, want.files())
	has(t, begun(t, copyOf(t, d)), when+", opened anew", want)
}

// isDone asks for a reply.
func isDone(t *testing.T, x *durable.Engine, when string, e api.Event, want api.Reply) {
	t.Helper()
	if got := x.Do(e); got != want {
		t.Errorf("%s: %+v: %+v, not %+v", when, e, got, want)
	}
}
