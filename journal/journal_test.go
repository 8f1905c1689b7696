package journal_test

import (
	"encoding/binary"
	"errors"
	"fmt"
	"hash/crc32"
	"maps"
	"math"
	"slices"
	"strings"
	"testing"

	"hawala/api"
	"hawala/disk"
	"hawala/journal"
)

// content are the files of a disk, by their numbers.
type content map[int]string

// String is all of it, with the beginnings of long files.
func (c content) String() string {
	var all []string
	for _, name := range slices.Sorted(maps.Keys(c)) {
		all = append(all, fmt.Sprintf("%d:%.100q", name, c[name]))
	}
	return "{" + strings.Join(all, " ") + "}"
}

// framed are records in frames, one behind the other, made by the library.
func framed(records ...string) string {
	var b []byte
	for _, r := range records {
		b = binary.BigEndian.AppendUint16(b, uint16(len(r)))
		b = binary.BigEndian.AppendUint32(b, crc32.ChecksumIEEE([]byte(r)))
		b = append(b, r...)
	}
	return string(b)
}

// number is a number's encoding, made by the library.
func number(n int) string { return string(binary.AppendVarint(nil, int64(n))) }

func snapshot(turn int, base string) string { return framed(number(turn) + base) }

func long(n int) string { return strings.Repeat("x", n) }

// put makes files; what they have is safe.
func put(t *testing.T, d *disk.Disk, files content) {
	t.Helper()
	for name, text := range files {
		if err := d.Append(name, []byte(text)); err != nil {
			t.Fatal(err)
		}
		if err := d.Sync(name); err != nil {
			t.Fatal(err)
		}
	}
}

func diskWith(t *testing.T, files content) *disk.Disk {
	t.Helper()
	d := disk.Of(api.MaxDisk)
	put(t, d, files)
	return d
}

func filesOf(d *disk.Disk) content {
	files := content{}
	for _, name := range d.Names() {
		b, _ := d.Read(name)
		files[name] = string(b)
	}
	return files
}

func wantFiles(t *testing.T, d *disk.Disk, when string, want content) {
	t.Helper()
	if got := filesOf(d); !maps.Equal(got, want) {
		t.Errorf("%s: the files are %v, want %v", when, got, want)
	}
}

// wantSafe is wantFiles of what a stop leaves for sure. The disk is restarted by it.
func wantSafe(t *testing.T, d *disk.Disk, when string, want content) {
	t.Helper()
	d.Restart(0)
	wantFiles(t, d, when+", behind a Restart", want)
}

func wantErr(t *testing.T, when string, err error, want api.Errno) {
	t.Helper()
	if !errors.Is(err, want) {
		t.Errorf("%s: %v, want %v", when, err, want)
	}
}

func wantNil(t *testing.T, when string, err error) {
	t.Helper()
	if err != nil {
		t.Errorf("%s: %v, want nil", when, err)
	}
}

func wantBroken(t *testing.T, j *journal.Journal, when string, want bool) {
	t.Helper()
	if j.Broken() != want {
		t.Errorf("%s: Broken = %v", when, !want)
	}
}

func texts(records [][]byte) []string {
	var all []string
	for _, r := range records {
		all = append(all, string(r))
	}
	return all
}

func bytesOf(records []string) [][]byte {
	var all [][]byte
	for _, r := range records {
		all = append(all, []byte(r))
	}
	return all
}

// has checks all that a Journal tells but Broken.
func has(t *testing.T, j *journal.Journal, when string, turn int, base string, records ...string) {
	t.Helper()
	if n := j.Turn(); n != turn {
		t.Errorf("%s: Turn = %d, want %d", when, n, turn)
	}
	if b := j.Base(); string(b) != base {
		t.Errorf("%s: Base = %.100q, want %.100q", when, b, base)
	}
	if rs := texts(j.Records()); !slices.Equal(rs, records) {
		t.Errorf("%s: Records = %.100q, want %.100q", when, rs, records)
	}
}

func open(t *testing.T, d *disk.Disk) *journal.Journal {
	t.Helper()
	j, err := journal.Open(d)
	if err != nil || j == nil {
		t.Fatalf("Open = %v, %v", j, err)
	}
	wantBroken(t, j, "just opened", false)
	return j
}

func wantNoJournal(t *testing.T, d *disk.Disk, when string, want api.Errno) {
	t.Helper()
	j, err := journal.Open(d)
	if j != nil || !errors.Is(err, want) {
		t.Errorf("%s: Open = %v, %v, want %v", when, j, err, want)
	}
}

func appendAll(t *testing.T, j *journal.Journal, records ...string) {
	t.Helper()
	wantNil(t, fmt.Sprintf("Append(%.50q)", records), j.Append(bytesOf(records)...))
}

func save(t *testing.T, j *journal.Journal, base string) {
	t.Helper()
	wantNil(t, fmt.Sprintf("Save(%.50q)", base), j.Save([]byte(base)))
}

// P6.1: what is opened

func TestOpenOfNoFiles(t *testing.T) {
	for _, room := range []int{0, 1, 1000} {
		d := disk.Of(room)
		j := open(t, d)
		has(t, j, "no files", 0, "")
		wantFiles(t, d, "no files", content{})
	}
}

// The bytes are written out by hand: no code of the program made them.
func TestOpenOfBytesByHand(t *testing.T) {
	j := open(t, diskWith(t, content{2: "\x00\x01\xe8\xb7\xbe\x43a\x00\x00\x00\x00\x00\x00"}))
	has(t, j, "by hand, without a snapshot", 0, "", "a", "")
	// 'b' is 98, so as a turn it is 49.
	j = open(t, diskWith(t, content{0: "\x00\x03\x01\xf8\xbc\x3cbas", 51: "\x00\x01\xe8\xb7\xbe\x43a"}))
	has(t, j, "by hand, with a snapshot", 49, "as", "a")
}

func TestOpenWithoutASnapshot(t *testing.T) {
	for _, c := range []struct {
		file string
		want []string
	}{
		{"", nil},
		{framed(""), []string{""}},
		{framed("a"), []string{"a"}},
		{framed("a", "bc", "", "", "def"), []string{"a", "bc", "", "", "def"}},
		{framed(long(api.MaxRecord), "a"), []string{long(api.MaxRecord), "a"}},
	} {
		d := diskWith(t, content{2: c.file})
		d.Arm(0)
		has(t, open(t, d), "without a snapshot", 0, "", c.want...)
		wantFiles(t, d, "without a snapshot", content{2: c.file})
	}
}

func TestOpenWithASnapshot(t *testing.T) {
	for _, turn := range []int{1, 2, 3, 63, 64, 1000, 1 << 40, math.MaxInt - 2} {
		for _, base := range []string{"", "b", "base", number(5) + "base", "\x80\x80", framed("a"), long(api.MaxRecord - 10)} {
			for _, records := range [][]string{nil, {""}, {"a", "", "bc"}} {
				files := content{0: snapshot(turn, base), 2 + turn: framed(records...)}
				d := diskWith(t, files)
				// There is nothing to do, so not one change may come.
				d.Arm(0)
				has(t, open(t, d), "with a snapshot", turn, base, records...)
				wantFiles(t, d, "with a snapshot", files)
			}
		}
		d := diskWith(t, content{0: snapshot(turn, "base")})
		has(t, open(t, d), "with a snapshot alone", turn, "base")
		wantFiles(t, d, "with a snapshot alone", content{0: snapshot(turn, "base")})
	}
}

// W5: the file's number wraps around behind the greatest ones.
func TestOpenOfTheGreatestTurns(t *testing.T) {
	for turn, name := range map[int]int{math.MaxInt - 2: math.MaxInt, math.MaxInt - 1: math.MinInt, math.MaxInt: math.MinInt + 1} {
		d := diskWith(t, content{0: snapshot(turn, "b"), name: framed("a"), name - 1: framed("n"), name + 1: framed("n")})
		has(t, open(t, d), "a great turn", turn, "b", "a")
		wantFiles(t, d, "a great turn", content{0: snapshot(turn, "b"), name: framed("a")})
	}
}

// P6.1: a file 0 that is no snapshot

func TestOpenOfAWrongSnapshot(t *testing.T) {
	good := snapshot(1, "base")
	for when, file := range map[string]string{
		"empty":                            "",
		"one byte":                         "?",
		"no frame":                         "this is no frame at all",
		"another sum":                      good[:5] + "\xff" + good[6:],
		"another byte in the base":         good[:len(good)-1] + "f",
		"another length":                   "\x00\x04" + good[2:],
		"a byte is missing":                good[:len(good)-1],
		"the head alone":                   good[:6],
		"a byte behind it":                 good + "\x00",
		"a torn frame behind it":           good + framed("x")[:6],
		"a frame behind it":                good + framed("x"),
		"an empty frame behind it":         good + framed(""),
		"twice":                            good + good,
		"a byte ahead of it":               "\x00" + good,
		"an empty frame ahead of it":       framed("") + good,
		"no turn":                          framed(""),
		"a turn without an end":            framed("\x80"),
		"a turn longer than it must be":    framed("\x82\x00base"),
		"a turn of more than 64 bits":      framed("\xfe\xff\xff\xff\xff\xff\xff\xff\xff\x03base"),
		"a turn of too many bytes":         framed("\x82\x80\x80\x80\x80\x80\x80\x80\x80\x80\x01base"),
		"turn 0":                           snapshot(0, "base"),
		"turn 0 without a base":            snapshot(0, ""),
		"turn -1":                          snapshot(-1, "base"),
		"turn -2, whose file were 0":       snapshot(-2, "base"),
		"turn -1000":                       snapshot(-1000, "base"),
		"the least turn":                   snapshot(math.MinInt, "base"),
		"a record too long for a frame":    framed(number(1) + long(api.MaxRecord)),
		"a snapshot that is not in frames": number(1) + "base",
	} {
		for _, others := range []content{{}, {1: good, 2: framed("a") + "torn", 3: framed("b") + "torn", -5: "x", 9: ""}} {
			files := maps.Clone(others)
			files[0] = file
			d := diskWith(t, files)
			wantNoJournal(t, d, when, api.ErrForm)
			wantFiles(t, d, when, files)
			// It is told ahead of the errors of the disk: no call of the disk comes.
			d.Arm(0)
			wantNoJournal(t, d, when+", armed", api.ErrForm)
			if d.Stopped() {
				t.Errorf("%s: Open changed the disk", when)
			}
			wantErr(t, "the stop", d.Append(9, nil), api.ErrCrash)
			wantNoJournal(t, d, when+", stopped", api.ErrForm)
		}
	}
}

// P6.1: other files, and torn ends

func TestOpenRemovesOtherFiles(t *testing.T) {
	others := content{math.MinInt: "x", -7: "", -2: framed("n"), -1: framed("n"), 1: snapshot(4, "next"), 4: framed("n"), 6: framed("n") + "torn", 700: "", math.MaxInt: "x"}
	without := maps.Clone(others)
	without[3] = framed("n")
	without[2] = framed("a")
	d := diskWith(t, without)
	has(t, open(t, d), "without a snapshot", 0, "", "a")
	wantFiles(t, d, "without a snapshot", content{2: framed("a")})
	wantSafe(t, d, "without a snapshot", content{2: framed("a")})

	with := maps.Clone(others)
	with[2] = framed("n")
	with[5] = framed("a")
	with[0] = snapshot(3, "base")
	d = diskWith(t, with)
	has(t, open(t, d), "with a snapshot", 3, "base", "a")
	wantFiles(t, d, "with a snapshot", content{0: with[0], 5: with[5]})

	d = diskWith(t, others)
	has(t, open(t, d), "without both", 0, "")
	wantFiles(t, d, "without both", content{})
}

func TestOpenCutsATornEnd(t *testing.T) {
	next := framed("next")
	tails := []string{"?", "torn", "\x00", "\x00\x00\x00\x00\x00", "\x00\x00\x00\x00\x00\x01", framed("torn")[:9] + "m" + framed("behind"), long(1000), framed(long(api.MaxRecord + 1))}
	for i := 1; i < len(next); i++ {
		tails = append(tails, next[:i])
	}
	for _, records := range [][]string{nil, {""}, {"a"}, {"a", "bc", ""}} {
		for _, tail := range tails {
			for turn, files := range []content{{}, {0: snapshot(1, "base")}} {
				kept := framed(records...)
				d := diskWith(t, files)
				put(t, d, content{2 + turn: kept})
				// Not synced: Cut makes safe what it leaves.
				wantNil(t, "the torn end", d.Append(2+turn, []byte(tail)))
				base := strings.Repeat("base", turn)
				has(t, open(t, d), fmt.Sprintf("torn by %q", tail), turn, base, records...)
				files[2+turn] = kept
				wantFiles(t, d, fmt.Sprintf("torn by %q", tail), files)
				d.Arm(0)
				has(t, open(t, d), "cut, and opened again", turn, base, records...)
			}
		}
	}
}

// Records that were not safe are as good as others where they are complete; without a torn end nothing is cut, so they don't become safe.
func TestOpenMakesNothingSafe(t *testing.T) {
	d := diskWith(t, content{2: framed("a")})
	wantNil(t, "Append", d.Append(2, []byte(framed("b"))))
	has(t, open(t, d), "not safe", 0, "", "a", "b")
	wantSafe(t, d, "not safe", content{2: framed("a")})
}

func TestCutMakesSafe(t *testing.T) {
	d := diskWith(t, content{2: framed("a")})
	wantNil(t, "Append", d.Append(2, []byte(framed("b")+"torn")))
	has(t, open(t, d), "cut", 0, "", "a", "b")
	wantSafe(t, d, "cut", content{2: framed("a", "b")})
}

// P6.1: the errors of the disk

func TestOpenThatIsStopped(t *testing.T) {
	first := content{-3: "x", 0: snapshot(2, "base"), 1: "?", 2: framed("n"), 3: "", 4: framed("a", "b") + "torn", 9: framed("n")}
	inOrder := []int{-3, 1, 2, 3, 9}
	left := maps.Clone(first)
	for n := range len(inOrder) + 1 {
		for keep := range 5 {
			d := diskWith(t, first)
			d.Arm(n)
			when := fmt.Sprintf("stopped at the change %d", n)
			wantNoJournal(t, d, when, api.ErrCrash)
			wantFiles(t, d, when, left)
			if !d.Stopped() {
				t.Errorf("%s: it has not", when)
			}
			wantNoJournal(t, d, when+", asked again", api.ErrCrash)
			wantFiles(t, d, when+", asked again", left)
			d.Restart(keep)
			has(t, open(t, d), when+" and restarted", 2, "base", "a", "b")
			wantFiles(t, d, when+" and restarted", content{0: first[0], 4: framed("a", "b")})
		}
		if n < len(inOrder) {
			delete(left, inOrder[n])
		}
	}
	d := diskWith(t, first)
	d.Arm(len(inOrder) + 1)
	has(t, open(t, d), "no stop", 2, "base", "a", "b")
	wantErr(t, "one more change", d.Sync(4), api.ErrCrash)
}

// Open asks a disk that has stopped for nothing, if there is nothing to remove and to cut.
func TestOpenOfAStoppedDisk(t *testing.T) {
	for _, files := range []content{{2: framed("a")}, {2: framed("a"), 1: "?"}, {2: framed("a") + "?"}} {
		d := diskWith(t, files)
		d.Arm(0)
		wantErr(t, "the stop", d.Sync(2), api.ErrCrash)
		if len(files) > 1 || len(files[2]) > 7 {
			wantNoJournal(t, d, "stopped", api.ErrCrash)
			wantFiles(t, d, "stopped", files)
			continue
		}
		j := open(t, d)
		has(t, j, "stopped", 0, "", "a")
		wantErr(t, "Append", j.Append([]byte("b")), api.ErrCrash)
		wantBroken(t, j, "stopped, behind an Append", true)
	}
}

// P6.2

func TestAppend(t *testing.T) {
	d := disk.Of(1000)
	j := open(t, d)
	var records []string
	for _, rs := range [][]string{{"a"}, {"bc", "def"}, {}, {""}, {"", "", "g"}, {"g", "g"}} {
		appendAll(t, j, rs...)
		records = append(records, rs...)
		has(t, j, "appended", 0, "", records...)
		wantBroken(t, j, "appended", false)
		wantFiles(t, d, "appended", content{2: framed(records...)})
		has(t, open(t, d), "opened anew", 0, "", records...)
	}
	wantSafe(t, d, "appended", content{2: framed(records...)})
	has(t, open(t, d), "opened behind a Restart", 0, "", records...)
}

func TestAppendBytesByHand(t *testing.T) {
	d := disk.Of(1000)
	appendAll(t, open(t, d), "a", "")
	wantFiles(t, d, "appended", content{2: "\x00\x01\xe8\xb7\xbe\x43a\x00\x00\x00\x00\x00\x00"})
}

func TestAppendBehindASnapshot(t *testing.T) {
	d := diskWith(t, content{0: snapshot(5, "base"), 7: framed("a")})
	j := open(t, d)
	appendAll(t, j, "b", "c")
	has(t, j, "appended", 5, "base", "a", "b", "c")
	wantSafe(t, d, "appended", content{0: snapshot(5, "base"), 7: framed("a", "b", "c")})
}

// What is appended behind a torn end could not be read, if the end were still there.
func TestAppendBehindATornEnd(t *testing.T) {
	d := diskWith(t, content{2: framed("a") + "torn"})
	appendAll(t, open(t, d), "b")
	wantFiles(t, d, "appended", content{2: framed("a", "b")})
	has(t, open(t, d), "opened anew", 0, "", "a", "b")
}

// No records are an Append and a Sync of no bytes: the file is there then.
func TestAppendOfNone(t *testing.T) {
	d := disk.Of(0)
	j := open(t, d)
	appendAll(t, j)
	has(t, j, "no records", 0, "")
	wantFiles(t, d, "no records", content{2: ""})
	for n, want := range []content{{2: ""}, {2: ""}} {
		d := disk.Of(0)
		j := open(t, d)
		d.Arm(n)
		wantErr(t, "no records at a stop", j.Append(), api.ErrCrash)
		wantBroken(t, j, "no records at a stop", true)
		wantFiles(t, d, "no records at a stop", want)
	}
}

// One call for all records, and one Sync, whatever their number.
func TestAppendIsTwoChanges(t *testing.T) {
	for _, rs := range [][]string{{}, {""}, {"a"}, {"a", "b"}, {"a", "", "b", "c", "d", "e"}} {
		d := disk.Of(1000)
		j := open(t, d)
		d.Arm(2)
		appendAll(t, j, rs...)
		if d.Stopped() {
			t.Error("the disk has stopped")
		}
		wantErr(t, "a third change", d.Sync(2), api.ErrCrash)
		wantSafe(t, d, "two changes", content{2: framed(rs...)})
	}
}

func TestAppendOfLongRecords(t *testing.T) {
	d := disk.Of(api.MaxDisk)
	j := open(t, d)
	greatest := long(api.MaxRecord)
	appendAll(t, j, greatest)
	appendAll(t, j, "a", greatest, greatest)
	has(t, j, "the greatest length", 0, "", greatest, "a", greatest, greatest)
	files := filesOf(d)
	d.Arm(0)
	for _, rs := range [][]string{{long(api.MaxRecord + 1)}, {"a", long(api.MaxRecord + 1)}, {long(api.MaxRecord + 1), "a"}, {greatest, long(20000), greatest}, {long(1 << 16)}, {long(1<<16 + 1)}} {
		wantErr(t, "too long", j.Append(bytesOf(rs)...), api.ErrArgument)
		wantBroken(t, j, "too long", false)
	}
	if d.Stopped() {
		t.Error("a record that is too long changed the disk")
	}
	has(t, j, "too long", 0, "", greatest, "a", greatest, greatest)
	wantFiles(t, d, "too long", files)
	d.Restart(0)
	appendAll(t, j, "b")
	has(t, open(t, d), "opened anew", 0, "", greatest, "a", greatest, greatest, "b")
}

func TestAppendWithoutRoom(t *testing.T) {
	for room := range 40 {
		d := disk.Of(room)
		j := open(t, d)
		var kept []string
		for _, rs := range [][]string{{"0123", "4567"}, {""}, {"89"}, {}} {
			size := len(framed(rs...))
			if d.Used()+size <= room {
				appendAll(t, j, rs...)
				kept = append(kept, rs...)
				continue
			}
			files := filesOf(d)
			wantErr(t, "without room", j.Append(bytesOf(rs)...), api.ErrFull)
			wantBroken(t, j, "without room", false)
			wantFiles(t, d, "without room", files)
		}
		has(t, j, "in so much room", 0, "", kept...)
		has(t, open(t, d), "opened anew", 0, "", kept...)
	}
}

func TestAppendErrorsInTheirOrder(t *testing.T) {
	tooLong := []byte(long(api.MaxRecord + 1))
	d := disk.Of(0)
	j := open(t, d)
	wantErr(t, "too long, no room", j.Append(tooLong), api.ErrArgument)
	d.Arm(0)
	wantErr(t, "too long, armed", j.Append(tooLong), api.ErrArgument)
	wantErr(t, "no room, armed", j.Append([]byte("a")), api.ErrFull)
	wantErr(t, "the stop", d.Append(2, nil), api.ErrCrash)
	wantErr(t, "too long, stopped", j.Append(tooLong), api.ErrArgument)
	wantBroken(t, j, "no call of its own told ErrCrash", false)
	wantErr(t, "no room, stopped", j.Append([]byte("a")), api.ErrCrash)
	wantBroken(t, j, "its own call told ErrCrash", true)
	wantErr(t, "too long, broken", j.Append(tooLong), api.ErrCrash)
	d.Restart(0)
	wantErr(t, "too long, broken, restarted", j.Append(tooLong), api.ErrCrash)
}

// complete are those of the records whose frames the first bytes have whole.
func complete(records []string, bytes int) []string {
	n := 0
	for n < len(records) && len(framed(records[:n+1]...)) <= bytes {
		n++
	}
	return records[:n]
}

func TestAppendThatIsStopped(t *testing.T) {
	records := []string{"b", "", "cde"}
	size := len(framed(records...))
	for n := range 2 {
		for keep := range size + 1 {
			for turn, first := range []content{{2: framed("a")}, {0: snapshot(1, "base"), 3: framed("a")}} {
				base := strings.Repeat("base", turn)
				d := diskWith(t, first)
				j := open(t, d)
				d.Arm(n)
				when := fmt.Sprintf("stopped at the change %d, %d bytes kept", n, keep)
				wantErr(t, when, j.Append(bytesOf(records)...), api.ErrCrash)
				wantBroken(t, j, when, true)
				has(t, j, when, turn, base, "a")
				d.Restart(keep)
				kept := append([]string{"a"}, complete(records, keep)...)
				k := open(t, d)
				has(t, k, when, turn, base, kept...)
				first[2+turn] = framed(kept...)
				wantFiles(t, d, when, first)
				appendAll(t, k, "z")
				has(t, open(t, d), when+", and appended", turn, base, append(kept, "z")...)
			}
		}
	}
}

// The very first Append: there is no file yet.
func TestFirstAppendThatIsStopped(t *testing.T) {
	for n := range 2 {
		for keep := range len(framed("a")) + 1 {
			d := disk.Of(100)
			j := open(t, d)
			d.Arm(n)
			wantErr(t, "stopped", j.Append([]byte("a")), api.ErrCrash)
			d.Restart(keep)
			has(t, open(t, d), "restarted", 0, "", complete([]string{"a"}, keep)...)
		}
	}
}

// P6.3

func TestSave(t *testing.T) {
	d := disk.Of(1000)
	j := open(t, d)
	for i, base := range []string{"base", "", "a longer base", "\x00\xff", framed("a"), number(7)} {
		appendAll(t, j, "a", "")
		appendAll(t, j, "b")
		save(t, j, base)
		has(t, j, "saved", i+1, base)
		wantBroken(t, j, "saved", false)
		files := content{0: snapshot(i+1, base)}
		wantFiles(t, d, "saved", files)
		has(t, open(t, d), "opened anew", i+1, base)
		wantSafe(t, d, "saved", files)
		has(t, open(t, d), "opened behind a Restart", i+1, base)
		appendAll(t, j, "c")
		has(t, j, "appended behind it", i+1, base, "c")
		files[3+i] = framed("c")
		wantSafe(t, d, "appended behind it", files)
	}
}

func TestSaveBytesByHand(t *testing.T) {
	d := diskWith(t, content{0: snapshot(48, "")})
	save(t, open(t, d), "as")
	// 49 is encoded as 98, which is 'b'.
	wantFiles(t, d, "saved", content{0: "\x00\x03\x01\xf8\xbc\x3cbas"})
}

func TestSaveWithoutRecords(t *testing.T) {
	d := disk.Of(1000)
	j := open(t, d)
	for turn := 1; turn <= 130; turn++ {
		base := fmt.Sprint("base ", turn)
		d.Restart(0)
		// The file of the records is not there, so there is no fourth change.
		d.Arm(3)
		save(t, j, base)
		if d.Stopped() {
			t.Error("the disk has stopped")
		}
		has(t, j, "saved", turn, base)
		wantSafe(t, d, "saved", content{0: snapshot(turn, base)})
		has(t, open(t, d), "opened anew", turn, base)
	}
}

// An empty file of the records is there all the same.
func TestSaveRemovesAnEmptyFile(t *testing.T) {
	d := disk.Of(1000)
	j := open(t, d)
	appendAll(t, j)
	wantFiles(t, d, "no records", content{2: ""})
	d.Arm(4)
	save(t, j, "base")
	wantErr(t, "a fifth change", d.Sync(0), api.ErrCrash)
	wantFiles(t, d, "saved", content{0: snapshot(1, "base")})
}

// Only the previous file of the records goes; what others put on the disk meanwhile is Open's to remove.
func TestSaveLeavesOtherFiles(t *testing.T) {
	d := disk.Of(1000)
	j := open(t, d)
	appendAll(t, j, "a")
	put(t, d, content{-1: "x", 3: framed("c"), 4: "y"})
	save(t, j, "base")
	has(t, j, "saved", 1, "base")
	wantFiles(t, d, "saved", content{-1: "x", 0: snapshot(1, "base"), 3: framed("c"), 4: "y"})
}

func TestSaveOfALongBase(t *testing.T) {
	for turn, size := range map[int]int{1: 1, 2: 1, 63: 1, 64: 2, 8191: 2, 8192: 3, 1 << 40: 6, math.MaxInt: 10} {
		files := content{0: snapshot(turn-1, "old"), 1 + turn: framed("a")}
		if turn == 1 {
			files = content{2: framed("a")}
		}
		d := diskWith(t, files)
		j := open(t, d)
		d.Arm(0)
		for _, more := range []int{1, 2, 10, 11, 1000, 1 << 16} {
			wantErr(t, "too long", j.Save([]byte(long(api.MaxRecord-size+more))), api.ErrArgument)
			wantBroken(t, j, "too long", false)
		}
		if d.Stopped() {
			t.Error("a base that is too long changed the disk")
		}
		wantFiles(t, d, "too long", files)
		has(t, j, "too long", turn-1, strings.Repeat("old", min(turn-1, 1)), "a")
		d.Restart(0)
		greatest := long(api.MaxRecord - size)
		save(t, j, greatest)
		has(t, j, "just not too long", turn, greatest)
		wantFiles(t, d, "just not too long", content{0: snapshot(turn, greatest)})
		has(t, open(t, d), "opened anew", turn, greatest)
	}
}

// W5: behind the greatest turn comes the least one, which no snapshot has when it is opened.
func TestSaveBehindTheGreatestTurn(t *testing.T) {
	d := diskWith(t, content{0: snapshot(math.MaxInt, "old"), math.MinInt + 1: framed("a")})
	j := open(t, d)
	save(t, j, "new")
	has(t, j, "saved", math.MinInt, "new")
	appendAll(t, j, "b")
	wantFiles(t, d, "saved", content{0: snapshot(math.MinInt, "new"), math.MinInt + 2: framed("b")})
	wantNoJournal(t, d, "opened anew", api.ErrForm)
}

// The old snapshot and its records take room while the new one is written.
func TestSaveWithoutRoom(t *testing.T) {
	files := content{0: snapshot(1, "old"), 3: framed("a", "b")}
	used := len(files[0]) + len(files[3])
	for more := range 20 {
		d := disk.Of(used + more)
		put(t, d, files)
		j := open(t, d)
		for size := range 20 {
			base := long(size)
			if len(snapshot(2, base)) <= more {
				continue
			}
			wantErr(t, "without room", j.Save([]byte(base)), api.ErrFull)
			wantBroken(t, j, "without room", false)
			has(t, j, "without room", 1, "old", "a", "b")
			wantFiles(t, d, "without room", files)
		}
		if greatest := more - len(snapshot(2, "")); greatest >= 0 {
			save(t, j, long(greatest))
			has(t, j, "just enough room", 2, long(greatest))
			has(t, open(t, d), "opened anew", 2, long(greatest))
		}
	}
}

func TestSaveErrorsInTheirOrder(t *testing.T) {
	tooLong := []byte(long(api.MaxRecord))
	d := disk.Of(0)
	j := open(t, d)
	wantErr(t, "too long, no room", j.Save(tooLong), api.ErrArgument)
	d.Arm(0)
	wantErr(t, "too long, armed", j.Save(tooLong), api.ErrArgument)
	wantErr(t, "no room, armed", j.Save(nil), api.ErrFull)
	wantErr(t, "the stop", d.Append(2, nil), api.ErrCrash)
	wantErr(t, "too long, stopped", j.Save(tooLong), api.ErrArgument)
	wantBroken(t, j, "no call of its own told ErrCrash", false)
	wantErr(t, "no room, stopped", j.Save(nil), api.ErrCrash)
	wantBroken(t, j, "its own call told ErrCrash", true)
	wantErr(t, "too long, broken", j.Save(tooLong), api.ErrCrash)
	d.Restart(0)
	wantErr(t, "too long, broken, restarted", j.Save(tooLong), api.ErrCrash)
}

func TestSaveThatIsStopped(t *testing.T) {
	coming := snapshot(2, "new")
	first := content{0: snapshot(1, "old"), 3: framed("a", "b")}
	for n := range 5 {
		for keep := range len(coming) + 1 {
			d := diskWith(t, first)
			j := open(t, d)
			d.Arm(n)
			when := fmt.Sprintf("stopped at the change %d, %d bytes kept", n, keep)
			err := j.Save([]byte("new"))
			if n == 4 {
				wantNil(t, "not stopped", err)
			} else {
				wantErr(t, when, err, api.ErrCrash)
			}
			wantBroken(t, j, when, n < 4)
			// What was there at the stop: the file 1 with all of its bytes, then the new snapshot beside the old records.
			switch {
			case n < 3:
				has(t, j, when, 1, "old", "a", "b")
				wantFiles(t, d, when, content{0: first[0], 1: coming, 3: first[3]})
			case n == 3:
				has(t, j, when, 2, "new")
				wantFiles(t, d, when, content{0: coming, 3: first[3]})
			default:
				has(t, j, when, 2, "new")
				wantFiles(t, d, when, content{0: coming})
			}
			d.Restart(keep)
			if n == 0 || n == 1 {
				wantFiles(t, d, when, content{0: first[0], 1: coming[:keep], 3: first[3]})
			}
			k := open(t, d)
			if n < 3 {
				has(t, k, when, 1, "old", "a", "b")
				wantFiles(t, d, when, first)
			} else {
				has(t, k, when, 2, "new")
				wantFiles(t, d, when, content{0: coming})
			}
			// It goes on as if nothing had been.
			turn := k.Turn() + 1
			save(t, k, "newer")
			appendAll(t, k, "z")
			has(t, open(t, d), when+", and saved", turn, "newer", "z")
		}
	}
}

func TestFirstSaveThatIsStopped(t *testing.T) {
	coming := snapshot(1, "new")
	for n := range 3 {
		for keep := range len(coming) + 1 {
			d := disk.Of(100)
			j := open(t, d)
			d.Arm(n)
			wantErr(t, "stopped", j.Save([]byte("new")), api.ErrCrash)
			wantBroken(t, j, "stopped", true)
			has(t, j, "stopped", 0, "")
			d.Restart(keep)
			has(t, open(t, d), "restarted", 0, "")
			wantFiles(t, d, "restarted", content{})
		}
	}
}

// Broken

func TestBrokenIsAskedAgain(t *testing.T) {
	for n := range 4 {
		d := diskWith(t, content{2: framed("a")})
		j := open(t, d)
		d.Arm(n)
		wantErr(t, "stopped", j.Save([]byte("new")), api.ErrCrash)
		turn, base, records := j.Turn(), string(j.Base()), texts(j.Records())
		for range 2 {
			files := filesOf(d)
			wantErr(t, "Append of none", j.Append(), api.ErrCrash)
			wantErr(t, "Append", j.Append([]byte("b")), api.ErrCrash)
			wantErr(t, "Save", j.Save([]byte("c")), api.ErrCrash)
			wantErr(t, "Save of nothing", j.Save(nil), api.ErrCrash)
			wantBroken(t, j, "asked again", true)
			has(t, j, "asked again", turn, base, records...)
			wantFiles(t, d, "asked again", files)
			// Restarted, the disk would take all of it, but the Journal does not ask it.
			d.Restart(3)
		}
		d.Arm(0)
		wantErr(t, "Append", j.Append([]byte("b")), api.ErrCrash)
		wantErr(t, "Save", j.Save([]byte("c")), api.ErrCrash)
		if d.Stopped() {
			t.Error("a Journal that is Broken asked the disk")
		}
	}
}

// A stop that nobody but others met breaks nothing; restarted, the disk takes what comes.
func TestAStopOfOthersBreaksNothing(t *testing.T) {
	d := diskWith(t, content{2: framed("a")})
	j := open(t, d)
	d.Arm(0)
	wantErr(t, "the stop", d.Sync(2), api.ErrCrash)
	wantBroken(t, j, "stopped", false)
	d.Restart(0)
	appendAll(t, j, "b")
	has(t, j, "restarted", 0, "", "a", "b")
	d.Arm(0)
	wantErr(t, "the stop", d.Sync(2), api.ErrCrash)
	wantErr(t, "Save", j.Save(nil), api.ErrCrash)
	wantBroken(t, j, "its own call", true)
}

func TestJournalsAreBrokenApart(t *testing.T) {
	d := diskWith(t, content{2: framed("a")})
	j, k := open(t, d), open(t, d)
	d.Arm(0)
	wantErr(t, "Append", j.Append(), api.ErrCrash)
	wantBroken(t, j, "the one", true)
	wantBroken(t, k, "the other one", false)
}

// W1, W6

func TestZeroJournal(t *testing.T) {
	var j journal.Journal
	has(t, &j, "zero", 0, "")
	wantBroken(t, &j, "zero", false)
	wantErr(t, "Append", j.Append([]byte("a")), api.ErrFull)
	wantErr(t, "Append", j.Append([]byte(long(20000))), api.ErrArgument)
	var k journal.Journal
	wantErr(t, "Save", k.Save(nil), api.ErrFull)
	wantErr(t, "Save", k.Save([]byte(long(20000))), api.ErrArgument)
	has(t, &k, "zero", 0, "")
}

func TestNilRecordsAndBases(t *testing.T) {
	d := disk.Of(100)
	j := open(t, d)
	wantNil(t, "Append", j.Append(nil, []byte{}, nil))
	has(t, j, "nil records", 0, "", "", "", "")
	has(t, open(t, d), "nil records", 0, "", "", "", "")
	wantNil(t, "Append", j.Append([][]byte(nil)...))
	has(t, j, "no records", 0, "", "", "", "")
	wantNil(t, "Save", j.Save(nil))
	has(t, open(t, d), "a nil base", 1, "")
}

func TestArgumentsAreNotKept(t *testing.T) {
	d := disk.Of(100)
	j := open(t, d)
	store := []byte("abcdefgh")
	rs := [][]byte{store[:2], store[2:4], nil}[:2]
	wantNil(t, "Append", j.Append(rs...))
	if string(store) != "abcdefgh" || rs[:3][2] != nil {
		t.Errorf("Append wrote to its arguments: %q", store)
	}
	clear(store)
	clear(rs)
	has(t, j, "the records were changed", 0, "", "ab", "cd")
	wantFiles(t, d, "the records were changed", content{2: framed("ab", "cd")})
	store = []byte("abcdefgh")
	wantNil(t, "Save", j.Save(store[:3]))
	if string(store) != "abcdefgh" {
		t.Errorf("Save wrote to its argument: %q", store)
	}
	clear(store)
	has(t, j, "the base was changed", 1, "abc")
	wantFiles(t, d, "the base was changed", content{0: snapshot(1, "abc")})
}

func TestAnswersAreApart(t *testing.T) {
	opened := open(t, diskWith(t, content{0: snapshot(1, "base"), 3: framed("ab", "cd")}))
	written := open(t, disk.Of(1000))
	save(t, written, "base")
	appendAll(t, written, "ab", "cd")
	for _, j := range []*journal.Journal{opened, written} {
		rs := j.Records()
		_ = append(rs[0], "zz"...)
		if string(rs[1]) != "cd" {
			t.Error("two records of one answer share memory")
		}
		clear(rs[1])
		clear(rs)
		clear(j.Base())
		has(t, j, "the answers were changed", 1, "base", "ab", "cd")
		first, second := append(j.Records(), []byte("x")), append(j.Records(), []byte("y"))
		appendAll(t, j, "ef")
		if string(first[2]) != "x" || string(second[2]) != "y" {
			t.Error("two answers share memory")
		}
		has(t, j, "the answers were appended to", 1, "base", "ab", "cd", "ef")
	}
}

// An answer stays what it was, whatever comes behind it.
func TestAnswersStay(t *testing.T) {
	d := diskWith(t, content{0: snapshot(1, "base"), 3: framed("a")})
	j := open(t, d)
	base, rs := j.Base(), j.Records()
	appendAll(t, j, "b")
	save(t, j, "next")
	appendAll(t, j, "c")
	if string(base) != "base" || len(rs) != 1 || string(rs[0]) != "a" {
		t.Errorf("answers changed: %q, %q", base, rs)
	}
}

// Examples

func TestExample(t *testing.T) {
	for keep := range 50 {
		d := disk.Of(1000)
		j := open(t, d)
		appendAll(t, j, "x")
		save(t, j, "y")
		appendAll(t, j, "z")
		d.Arm(0)
		wantErr(t, "a stop", d.Append(9, nil), api.ErrCrash)
		d.Restart(keep)
		has(t, open(t, d), "behind a stop", 1, "y", "z")
	}
}

// All of it, call by call

// plain is the chapter's text once more: each call is a list of calls of the disk, of which the first one with an error is the last one.
type plain struct {
	d       *disk.Disk
	turn    int
	base    string
	records []string
	broken  bool
}

func (p *plain) run(calls ...func() error) api.Errno {
	for _, call := range calls {
		if err := call(); err != nil {
			p.broken = p.broken || errors.Is(err, api.ErrCrash)
			return api.Number(err)
		}
	}
	return 0
}

func (p *plain) append(records []string) api.Errno {
	if p.broken {
		return api.ErrCrash
	}
	if slices.ContainsFunc(records, func(r string) bool { return len(r) > 16384 }) {
		return api.ErrArgument
	}
	name := 2 + p.turn
	return p.run(
		func() error { return p.d.Append(name, []byte(framed(records...))) },
		func() error { return p.d.Sync(name) },
		func() error { p.records = append(p.records, records...); return nil },
	)
}

func (p *plain) save(base string) api.Errno {
	if p.broken {
		return api.ErrCrash
	}
	if len(number(p.turn+1)+base) > 16384 {
		return api.ErrArgument
	}
	name := 2 + p.turn
	return p.run(
		func() error { return p.d.Append(1, []byte(snapshot(p.turn+1, base))) },
		func() error { return p.d.Sync(1) },
		func() error { return p.d.Rename(1, 0) },
		func() error { p.turn, p.base, p.records = p.turn+1, base, nil; return nil },
		func() error {
			if _, there := p.d.Read(name); there {
				return p.d.Remove(name)
			}
			return nil
		},
	)
}

// take is the record that a text begins with, and what is behind it.
func take(text string) (string, string, bool) {
	if len(text) < 6 {
		return "", "", false
	}
	size := int(binary.BigEndian.Uint16([]byte(text)))
	if size > 16384 || len(text) < 6+size || framed(text[6:6+size]) != text[:6+size] {
		return "", "", false
	}
	return text[6 : 6+size], text[6+size:], true
}

func (p *plain) open() api.Errno {
	*p = plain{d: p.d}
	if b, there := p.d.Read(0); there {
		record, behind, ok := take(string(b))
		turn, size := binary.Varint([]byte(record))
		if !ok || behind != "" || size < 1 || turn < 1 || number(int(turn)) != record[:size] {
			return api.ErrForm
		}
		p.turn, p.base = int(turn), record[size:]
	}
	for _, name := range p.d.Names() {
		if name != 0 && name != 2+p.turn {
			if err := p.d.Remove(name); err != nil {
				return api.Number(err)
			}
		}
	}
	b, _ := p.d.Read(2 + p.turn)
	rest := string(b)
	for {
		record, behind, ok := take(rest)
		if !ok {
			break
		}
		p.records, rest = append(p.records, record), behind
	}
	if rest == "" {
		return 0
	}
	return api.Number(p.d.Cut(2+p.turn, len(b)-len(rest)))
}

// draw are numbers that look like chance, the same ones each time.
type draw uint64

func (s *draw) below(n int) int {
	*s = *s*6364136223846793005 + 1442695040888963407
	return int(uint64(*s)>>33) % n
}

// word is mostly short, sometimes of about the greatest length.
func (s *draw) word() string {
	if s.below(30) == 0 {
		return long(api.MaxRecord - 3 + s.below(6))
	}
	return "0123456789abcdef"[s.below(8):][:s.below(6)]
}

func (s *draw) words() []string {
	var all []string
	for range s.below(4) {
		all = append(all, s.word())
	}
	return all
}

// pair is a Journal and a plain one, each on a disk of its own; the Journal is nil while it can't be opened.
type pair struct {
	d *disk.Disk
	j *journal.Journal
	p *plain
}

func (x *pair) open() (error, api.Errno) {
	var err error
	x.j, err = journal.Open(x.d)
	return err, x.p.open()
}

// both is the same call of the two disks, by others than the Journals.
func (x *pair) both(call func(d *disk.Disk) error) (error, api.Errno) {
	return call(x.d), api.Number(call(x.p.d))
}

// step is the same call, drawn, at both; it answers with what was asked and what each one told.
func (x *pair) step(s *draw) (string, error, api.Errno) {
	kind := s.below(20)
	if x.j == nil && kind < 12 {
		kind = 16 + kind%4
	}
	switch kind {
	case 0, 1, 2, 3, 4, 5, 6:
		rs := s.words()
		return fmt.Sprintf("Append(%.30q)", rs), x.j.Append(bytesOf(rs)...), x.p.append(rs)
	case 7, 8, 9, 10, 11:
		base := s.word()
		return fmt.Sprintf("Save(%.30q)", base), x.j.Save([]byte(base)), x.p.save(base)
	case 12, 13:
		n := s.below(6)
		x.d.Arm(n)
		x.p.d.Arm(n)
		return fmt.Sprintf("Arm(%d)", n), nil, 0
	case 14:
		name, b := s.below(8)-1, []byte(s.word())
		if s.below(3) > 0 {
			name = 2 + x.p.turn
		}
		err, want := x.both(func(d *disk.Disk) error { return d.Append(name, b) })
		return fmt.Sprintf("others append %q to %d", b, name), err, want
	case 15:
		name := s.below(4)
		err, want := x.both(func(d *disk.Disk) error { return d.Remove(name) })
		return fmt.Sprintf("others remove %d", name), err, want
	case 16:
		err, want := x.open()
		return "Open", err, want
	}
	keep := s.below(41)
	x.d.Restart(keep)
	x.p.d.Restart(keep)
	err, want := x.open()
	return fmt.Sprintf("Restart(%d) and Open", keep), err, want
}

func (x *pair) same() bool {
	if !maps.Equal(filesOf(x.d), filesOf(x.p.d)) || x.d.Stopped() != x.p.d.Stopped() {
		return false
	}
	if x.j == nil {
		return true
	}
	return x.j.Turn() == x.p.turn && string(x.j.Base()) == x.p.base && slices.Equal(texts(x.j.Records()), x.p.records) && x.j.Broken() == x.p.broken
}

func TestCallByCall(t *testing.T) {
	told := map[api.Errno]int{}
	for seed := range 300 {
		s := draw(seed)
		room := []int{60, 200, 40000, api.MaxDisk}[s.below(4)]
		x := &pair{d: disk.Of(room), p: &plain{d: disk.Of(room)}}
		for range 150 {
			words, err, want := x.step(&s)
			told[want]++
			if api.Number(err) != want || (err == nil) != (want == 0) || strings.Contains(words, "Open") && (x.j == nil) != (err != nil) {
				t.Fatalf("seed %d: %s = %v, want %v", seed, words, err, want)
			}
			if !x.same() {
				t.Fatalf("seed %d: behind %s: %v, want %v", seed, words, filesOf(x.d), filesOf(x.p.d))
			}
		}
	}
	for _, e := range []api.Errno{0, api.ErrCrash, api.ErrFull, api.ErrForm, api.ErrArgument} {
		if told[e] < 300 {
			t.Errorf("the drawn calls told %v only %d times", e, told[e])
		}
	}
}
