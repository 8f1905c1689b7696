package disk_test

import (
	"errors"
	"fmt"
	"math"
	"slices"
	"strings"
	"testing"

	"hawala/api"
	"hawala/disk"
)

// call is one that changes a disk, with the words that tell which.
type call struct {
	words string
	do    func(d *disk.Disk) error
}

func appendTo(name int, b string) call {
	return call{fmt.Sprintf("Append(%d, %d bytes)", name, len(b)), func(d *disk.Disk) error { return d.Append(name, []byte(b)) }}
}

func syncOf(name int) call {
	return call{fmt.Sprintf("Sync(%d)", name), func(d *disk.Disk) error { return d.Sync(name) }}
}

func rename(from, to int) call {
	return call{fmt.Sprintf("Rename(%d, %d)", from, to), func(d *disk.Disk) error { return d.Rename(from, to) }}
}

func remove(name int) call {
	return call{fmt.Sprintf("Remove(%d)", name), func(d *disk.Disk) error { return d.Remove(name) }}
}

func cut(name, n int) call {
	return call{fmt.Sprintf("Cut(%d, %d)", name, n), func(d *disk.Disk) error { return d.Cut(name, n) }}
}

// sample is a disk with room for 20 bytes of which 10 are used: the file 2 has 3 safe bytes of 5, the file 4 none of 4, the file 6 its only one, the file 8 is empty.
func sample(t *testing.T) *disk.Disk {
	t.Helper()
	d := disk.Of(20)
	must(t, d, appendTo(2, "abc"), syncOf(2), appendTo(2, "de"), appendTo(4, "wxyz"), appendTo(6, "!"), syncOf(6), appendTo(8, ""))
	return d
}

const sampleFiles = "2:abcde 4:wxyz 6:! 8: "

// sampleSafe is what Restart(0) leaves of it.
const sampleSafe = "2:abc 4: 6:! 8: "

// good are calls without an error at the sample, what they leave of its files, and what of that is safe.
var good = []struct {
	call
	files, safe string
}{
	{appendTo(2, "f"), "2:abcdef 4:wxyz 6:! 8: ", sampleSafe},
	{appendTo(8, "0123456789"), "2:abcde 4:wxyz 6:! 8:0123456789 ", sampleSafe},
	{appendTo(1, "new"), "1:new 2:abcde 4:wxyz 6:! 8: ", "1: 2:abc 4: 6:! 8: "},
	{appendTo(9, ""), "2:abcde 4:wxyz 6:! 8: 9: ", "2:abc 4: 6:! 8: 9: "},
	{appendTo(2, ""), sampleFiles, sampleSafe},
	{syncOf(2), sampleFiles, "2:abcde 4: 6:! 8: "},
	{syncOf(4), sampleFiles, "2:abc 4:wxyz 6:! 8: "},
	{syncOf(6), sampleFiles, sampleSafe},
	{syncOf(8), sampleFiles, sampleSafe},
	{rename(2, 3), "3:abcde 4:wxyz 6:! 8: ", "3:abc 4: 6:! 8: "},
	{rename(2, 4), "4:abcde 6:! 8: ", "4:abc 6:! 8: "},
	{rename(4, 2), "2:wxyz 6:! 8: ", "2: 6:! 8: "},
	{rename(8, 2), "2: 4:wxyz 6:! ", "2: 4: 6:! "},
	{rename(2, 2), sampleFiles, sampleSafe},
	{rename(8, 8), sampleFiles, sampleSafe},
	{rename(6, math.MinInt), fmt.Sprintf("%d:! 2:abcde 4:wxyz 8: ", math.MinInt), fmt.Sprintf("%d:! 2:abc 4: 8: ", math.MinInt)},
	{remove(2), "4:wxyz 6:! 8: ", "4: 6:! 8: "},
	{remove(8), "2:abcde 4:wxyz 6:! ", "2:abc 4: 6:! "},
	{cut(2, 0), "2: 4:wxyz 6:! 8: ", "2: 4: 6:! 8: "},
	{cut(2, 2), "2:ab 4:wxyz 6:! 8: ", "2:ab 4: 6:! 8: "},
	{cut(2, 3), "2:abc 4:wxyz 6:! 8: ", sampleSafe},
	{cut(2, 4), "2:abcd 4:wxyz 6:! 8: ", "2:abcd 4: 6:! 8: "},
	{cut(2, 5), sampleFiles, "2:abcde 4: 6:! 8: "},
	{cut(4, 1), "2:abcde 4:w 6:! 8: ", "2:abc 4:w 6:! 8: "},
	{cut(8, 0), sampleFiles, sampleSafe},
}

// bad are calls with an error at the sample.
var bad = []struct {
	call
	err api.Errno
}{
	{appendTo(2, "01234567890"), api.ErrFull},
	{appendTo(8, "01234567890"), api.ErrFull},
	{appendTo(9, "01234567890"), api.ErrFull},
	{appendTo(9, strings.Repeat("x", api.MaxDisk+1)), api.ErrFull},
	{syncOf(3), api.ErrUnknown},
	{syncOf(-2), api.ErrUnknown},
	{rename(3, 2), api.ErrUnknown},
	{rename(3, 3), api.ErrUnknown},
	{rename(math.MaxInt, math.MinInt), api.ErrUnknown},
	{remove(3), api.ErrUnknown},
	{remove(0), api.ErrUnknown},
	{cut(3, 0), api.ErrUnknown},
	{cut(3, -1), api.ErrUnknown},
	{cut(3, 1), api.ErrUnknown},
	{cut(2, -1), api.ErrArgument},
	{cut(2, 6), api.ErrArgument},
	{cut(4, 5), api.ErrArgument},
	{cut(8, 1), api.ErrArgument},
	{cut(2, math.MinInt), api.ErrArgument},
	{cut(2, math.MaxInt), api.ErrArgument},
}

// files are all files of a disk as one text, as Names and Read tell them.
func files(d *disk.Disk) string {
	var text strings.Builder
	for _, name := range d.Names() {
		b, ok := d.Read(name)
		if !ok {
			fmt.Fprintf(&text, "%d is not there ", name)
			continue
		}
		fmt.Fprintf(&text, "%d:%s ", name, b)
	}
	return text.String()
}

func must(t *testing.T, d *disk.Disk, calls ...call) {
	t.Helper()
	for _, c := range calls {
		if err := c.do(d); err != nil {
			t.Errorf("%s = %v, want nil", c.words, err)
		}
	}
}

func wantErr(t *testing.T, d *disk.Disk, c call, want api.Errno) {
	t.Helper()
	if err := c.do(d); !errors.Is(err, want) {
		t.Errorf("%s = %v, want %v", c.words, err, want)
	}
}

func wantFiles(t *testing.T, d *disk.Disk, when, want string) {
	t.Helper()
	if got := files(d); got != want {
		t.Errorf("%s: the files are %q, want %q", when, got, want)
	}
}

func wantUsed(t *testing.T, d *disk.Disk, when string, want int) {
	t.Helper()
	if n := d.Used(); n != want {
		t.Errorf("%s: Used = %d, want %d", when, n, want)
	}
}

func wantStopped(t *testing.T, d *disk.Disk, when string, want bool) {
	t.Helper()
	if d.Stopped() != want {
		t.Errorf("%s: Stopped = %v", when, !want)
	}
}

// P5.1

func TestOfHasNoFiles(t *testing.T) {
	for _, room := range []int{math.MinInt, -1, 0, 1, 100, api.MaxDisk, api.MaxDisk + 1, math.MaxInt} {
		d := disk.Of(room)
		if ns := d.Names(); len(ns) != 0 {
			t.Errorf("Of(%d) has the files %v", room, ns)
		}
		for _, name := range []int{math.MinInt, -1, 0, 1, 2, math.MaxInt} {
			if b, ok := d.Read(name); len(b) != 0 || ok {
				t.Errorf("Of(%d) has a file %d: %q, %v", room, name, b, ok)
			}
		}
		wantUsed(t, d, "a new disk", 0)
		wantStopped(t, d, "a new disk", false)
	}
}

func TestRoom(t *testing.T) {
	for _, c := range []struct{ room, want int }{
		{math.MinInt, 0}, {-api.MaxDisk, 0}, {-1, 0}, {0, 0}, {1, 1}, {2, 2}, {10, 10}, {1000, 1000},
		{api.MaxDisk - 1, 1<<18 - 1}, {api.MaxDisk, 1 << 18}, {api.MaxDisk + 1, 1 << 18}, {2 * api.MaxDisk, 1 << 18}, {math.MaxInt, 1 << 18},
	} {
		d := disk.Of(c.room)
		wantErr(t, d, appendTo(1, strings.Repeat("x", c.want+1)), api.ErrFull)
		wantFiles(t, d, "behind bytes that don't fit", "")
		must(t, d, appendTo(1, strings.Repeat("x", c.want)))
		wantUsed(t, d, "a full disk", c.want)
		wantErr(t, d, appendTo(1, "x"), api.ErrFull)
		wantErr(t, d, appendTo(2, "x"), api.ErrFull)
		must(t, d, appendTo(1, ""), appendTo(2, ""))
		wantUsed(t, d, "a full disk", c.want)
	}
}

func TestRoomIsOfAllFiles(t *testing.T) {
	d := disk.Of(10)
	must(t, d, appendTo(1, "123"), appendTo(2, "456"), appendTo(3, "789"))
	wantErr(t, d, appendTo(4, "xy"), api.ErrFull)
	wantErr(t, d, appendTo(1, "xy"), api.ErrFull)
	must(t, d, appendTo(4, "x"))
	wantErr(t, d, appendTo(2, "y"), api.ErrFull)
	wantFiles(t, d, "a full disk", "1:123 2:456 3:789 4:x ")
	wantUsed(t, d, "a full disk", 10)
}

// Whatever takes bytes away makes room for just as many.
func TestRoomComesBack(t *testing.T) {
	for _, c := range []struct {
		words string
		less  func(d *disk.Disk)
		used  int
	}{
		{"Remove", func(d *disk.Disk) { must(t, d, remove(2)) }, 5},
		{"Cut", func(d *disk.Disk) { must(t, d, cut(2, 1)) }, 6},
		{"Rename", func(d *disk.Disk) { must(t, d, rename(2, 4)) }, 6},
		{"Restart", func(d *disk.Disk) { d.Restart(0) }, 4},
	} {
		d := sample(t)
		must(t, d, appendTo(8, "0123456789"))
		wantErr(t, d, appendTo(9, "x"), api.ErrFull)
		must(t, d, cut(8, 0))
		c.less(d)
		wantUsed(t, d, c.words, c.used)
		wantErr(t, d, appendTo(9, strings.Repeat("x", 20-c.used+1)), api.ErrFull)
		must(t, d, appendTo(9, strings.Repeat("x", 20-c.used)))
		wantUsed(t, d, c.words, 20)
	}
}

func TestUsed(t *testing.T) {
	d := sample(t)
	wantUsed(t, d, "the sample", 10)
	for _, c := range []struct {
		call
		used int
	}{
		{appendTo(2, "f"), 11}, {appendTo(1, "new"), 14}, {appendTo(9, ""), 14}, {syncOf(4), 14}, {rename(4, 5), 14}, {rename(5, 5), 14},
		{cut(1, 2), 13}, {cut(1, 2), 13}, {rename(6, 2), 7}, {remove(8), 7}, {remove(5), 3}, {remove(1), 1}, {remove(2), 0}, {remove(9), 0},
	} {
		must(t, d, c.call)
		wantUsed(t, d, c.words, c.used)
	}
}

func TestRead(t *testing.T) {
	d := sample(t)
	for name, want := range map[int]string{2: "abcde", 4: "wxyz", 6: "!", 8: ""} {
		if b, ok := d.Read(name); string(b) != want || !ok {
			t.Errorf("Read(%d) = %q, %v, want %q, true", name, b, ok, want)
		}
	}
	for _, name := range []int{math.MinInt, -2, 0, 1, 3, 5, 7, 9, math.MaxInt} {
		if b, ok := d.Read(name); len(b) != 0 || ok {
			t.Errorf("Read(%d) = %q, %v, want nothing, false", name, b, ok)
		}
	}
}

func TestReadOfAnyByte(t *testing.T) {
	var all []byte
	for i := range 256 {
		all = append(all, byte(i))
	}
	d := disk.Of(1000)
	must(t, d, appendTo(1, string(all)), appendTo(1, string(all)))
	if b, ok := d.Read(1); string(b) != string(all)+string(all) || !ok {
		t.Errorf("Read = %x, %v", b, ok)
	}
}

func TestNames(t *testing.T) {
	d := disk.Of(0)
	names := []int{5, -1, math.MaxInt, 0, 2, math.MinInt, 100, 1, -100, 3}
	for i, name := range names {
		must(t, d, appendTo(name, ""))
		want := slices.Sorted(slices.Values(names[:i+1]))
		if ns := d.Names(); !slices.Equal(ns, want) {
			t.Errorf("Names = %v, want %v", ns, want)
		}
	}
	for i, name := range names {
		must(t, d, remove(name))
		want := slices.Sorted(slices.Values(names[i+1:]))
		if ns := d.Names(); !slices.Equal(ns, want) {
			t.Errorf("Names = %v, want %v", ns, want)
		}
	}
}

func TestNamesOfManyFiles(t *testing.T) {
	d := disk.Of(1000)
	for i := range 500 {
		must(t, d, appendTo(i*37%500, "x"))
	}
	ns := d.Names()
	if len(ns) != 500 || !slices.IsSorted(ns) || ns[0] != 0 || ns[499] != 499 {
		t.Errorf("Names of 500 files = %v", ns)
	}
	wantUsed(t, d, "500 files of one byte", 500)
}

// What is asked changes nothing, also on a disk that has stopped.
func TestAskingChangesNothing(t *testing.T) {
	d := sample(t)
	d.Arm(0)
	for _, stopped := range []bool{false, true} {
		for range 2 {
			wantFiles(t, d, "the sample", sampleFiles)
			wantUsed(t, d, "the sample", 10)
			wantStopped(t, d, "the sample", stopped)
			if b, ok := d.Read(3); len(b) != 0 || ok {
				t.Errorf("Read(3) = %q, %v, want nothing, false", b, ok)
			}
		}
		wantErr(t, d, syncOf(2), api.ErrCrash)
	}
	d.Restart(0)
	wantFiles(t, d, "the sample, restarted", sampleSafe)
}

func TestAnswersAreApart(t *testing.T) {
	d := sample(t)
	b, _ := d.Read(2)
	clear(b)
	_ = append(b[:3], "more"...)
	ns := d.Names()
	clear(ns)
	wantFiles(t, d, "behind writing into answers", sampleFiles)
	b, _ = d.Read(2)
	must(t, d, cut(2, 1), appendTo(2, "XYZ"))
	if string(b) != "abcde" {
		t.Errorf("an answer of Read became %q", b)
	}
	wantFiles(t, d, "behind more", "2:aXYZ 4:wxyz 6:! 8: ")
}

func TestAppendKeepsNothingOfItsBytes(t *testing.T) {
	d := disk.Of(100)
	store := []byte("abcdefgh")
	if err := d.Append(1, store[:3]); err != nil {
		t.Error(err)
	}
	must(t, d, appendTo(1, "123"))
	if err := d.Append(2, store[3:6]); err != nil {
		t.Error(err)
	}
	if string(store) != "abcdefgh" {
		t.Errorf("Append changed its bytes: %q", store)
	}
	clear(store)
	wantFiles(t, d, "behind writing into arguments", "1:abc123 2:def ")
}

func TestAppendOfNoBytes(t *testing.T) {
	d := disk.Of(0)
	for i, b := range [][]byte{nil, {}} {
		if err := d.Append(i, b); err != nil {
			t.Errorf("Append of %#v = %v", b, err)
		}
		if b, ok := d.Read(i); len(b) != 0 || !ok {
			t.Errorf("Read of an empty file = %q, %v, want nothing, true", b, ok)
		}
	}
	wantFiles(t, d, "empty files", "0: 1: ")
}

func TestDisksAreApart(t *testing.T) {
	first, second := sample(t), disk.Of(20)
	first.Arm(0)
	must(t, second, appendTo(2, "other"))
	wantErr(t, first, remove(2), api.ErrCrash)
	wantStopped(t, second, "the other disk", false)
	must(t, second, remove(2))
	wantFiles(t, first, "the first disk", sampleFiles)
	wantFiles(t, second, "the second disk", "")
}

// A disk that Of did not make answers as one without room: no call panics.
func TestZeroDisk(t *testing.T) {
	var d disk.Disk
	d.Restart(3)
	wantFiles(t, &d, "a zero disk", "")
	wantErr(t, &d, appendTo(1, "x"), api.ErrFull)
	for _, c := range []call{syncOf(1), rename(1, 2), remove(1), cut(1, 0)} {
		wantErr(t, &d, c, api.ErrUnknown)
	}
	must(t, &d, appendTo(1, ""), syncOf(1), rename(1, 2), cut(2, 0))
	wantFiles(t, &d, "a zero disk", "2: ")
}

// P5.2

func TestChanges(t *testing.T) {
	for _, c := range good {
		d := sample(t)
		must(t, d, c.call)
		wantFiles(t, d, c.words, c.files)
		wantStopped(t, d, c.words, false)
		d.Restart(0)
		wantFiles(t, d, c.words+" and Restart(0)", c.safe)
	}
}

func TestErrors(t *testing.T) {
	for _, c := range bad {
		d := sample(t)
		for range 2 {
			wantErr(t, d, c.call, c.err)
			wantFiles(t, d, c.words, sampleFiles)
			wantStopped(t, d, c.words, false)
		}
		d.Restart(0)
		wantFiles(t, d, c.words+" and Restart(0)", sampleSafe)
	}
}

func TestErrorsOfADiskWithoutFiles(t *testing.T) {
	for _, name := range []int{math.MinInt, -1, 0, 1, math.MaxInt} {
		d := disk.Of(10)
		for _, c := range []call{syncOf(name), rename(name, name), rename(name, 1), remove(name), cut(name, 0), cut(name, -1), cut(name, 1)} {
			wantErr(t, d, c, api.ErrUnknown)
			wantFiles(t, d, c.words, "")
		}
	}
}

// The call at which a disk stops does nothing, but that an Append's bytes are there, and not safe.
func TestTheCallAtWhichItStops(t *testing.T) {
	for _, n := range []int{0, -1, math.MinInt} {
		for _, c := range good {
			left, safe := sampleFiles, sampleSafe
			if strings.HasPrefix(c.words, "Append") {
				left, safe = c.files, c.safe
			}
			d := sample(t)
			d.Arm(n)
			wantStopped(t, d, "armed", false)
			wantErr(t, d, c.call, api.ErrCrash)
			wantStopped(t, d, c.words, true)
			wantFiles(t, d, "stopped at "+c.words, left)
			d.Restart(0)
			wantFiles(t, d, "restarted behind "+c.words, safe)
		}
	}
}

// What a call at which the disk stopped would have done is done by the same call later.
func TestTheSameCallLater(t *testing.T) {
	for _, c := range good {
		if strings.HasPrefix(c.words, "Append") {
			continue
		}
		d := sample(t)
		must(t, d, syncOf(2), syncOf(4))
		d.Arm(0)
		wantErr(t, d, c.call, api.ErrCrash)
		d.Restart(0)
		must(t, d, c.call)
		wantFiles(t, d, c.words, c.files)
	}
}

// An error comes ahead of the stop, and is no change.
func TestErrorsDoNotStopIt(t *testing.T) {
	d := sample(t)
	d.Arm(0)
	for range 2 {
		for _, c := range bad {
			wantErr(t, d, c.call, c.err)
			wantStopped(t, d, c.words, false)
		}
	}
	wantErr(t, d, syncOf(2), api.ErrCrash)
	wantStopped(t, d, "behind a change", true)
}

func TestErrorsAreNotCounted(t *testing.T) {
	d := sample(t)
	d.Arm(2)
	for range 2 {
		for _, c := range bad {
			wantErr(t, d, c.call, c.err)
		}
		must(t, d, syncOf(8))
		wantStopped(t, d, "behind errors and changes", false)
	}
	wantErr(t, d, bad[0].call, bad[0].err)
	wantErr(t, d, syncOf(8), api.ErrCrash)
}

// Every call is a change, also one that leaves the files as they were.
func TestEachChangeIsCounted(t *testing.T) {
	for _, c := range good {
		d := sample(t)
		d.Arm(1)
		must(t, d, c.call)
		wantStopped(t, d, c.words, false)
		wantErr(t, d, appendTo(6, ""), api.ErrCrash)
		wantStopped(t, d, "the call behind "+c.words, true)
	}
}

func TestItStopsBehindSoManyChanges(t *testing.T) {
	for n := range 40 {
		d := disk.Of(1000)
		d.Arm(n)
		for i := range n {
			must(t, d, []call{appendTo(1, "x"), syncOf(1), rename(1, 1), cut(1, 0), remove(1)}[i%5])
			wantStopped(t, d, "ahead of the last change", false)
		}
		wantErr(t, d, appendTo(2, "y"), api.ErrCrash)
		wantStopped(t, d, "behind the last change", true)
	}
}

// A disk that has stopped answers every change with ErrCrash, ahead of every other error, and leaves all as it is.
func TestAStoppedDisk(t *testing.T) {
	d := sample(t)
	d.Arm(0)
	wantErr(t, d, remove(2), api.ErrCrash)
	for range 2 {
		for _, c := range good {
			wantErr(t, d, c.call, api.ErrCrash)
		}
		for _, c := range bad {
			wantErr(t, d, c.call, api.ErrCrash)
		}
		wantFiles(t, d, "a stopped disk", sampleFiles)
		wantUsed(t, d, "a stopped disk", 10)
		wantStopped(t, d, "a stopped disk", true)
	}
	d.Restart(0)
	wantFiles(t, d, "restarted", sampleSafe)
}

func TestBytesThatJustFitAtTheStop(t *testing.T) {
	d := disk.Of(5)
	must(t, d, appendTo(1, "ab"))
	d.Arm(0)
	wantErr(t, d, appendTo(1, "cdef"), api.ErrFull)
	wantStopped(t, d, "bytes that don't fit", false)
	wantErr(t, d, appendTo(1, "cde"), api.ErrCrash)
	wantFiles(t, d, "bytes that fit", "1:abcde ")
	wantUsed(t, d, "bytes that fit", 5)
}

// P5.3

func TestExample(t *testing.T) {
	d := disk.Of(100)
	must(t, d, appendTo(1, "abc"), syncOf(1), appendTo(1, "de"))
	d.Restart(1)
	wantFiles(t, d, "the chapter's example", "1:abcd ")
}

func TestRestart(t *testing.T) {
	for _, c := range []struct {
		keep int
		want string
	}{
		{0, "2:abc 4: 6:! 8: "},
		{1, "2:abcd 4:w 6:! 8: "},
		{2, "2:abcde 4:wx 6:! 8: "},
		{3, "2:abc 4:wxy 6:! 8: "},
		{4, "2:abcd 4:wxyz 6:! 8: "},
		{5, "2:abcde 4: 6:! 8: "},
		{14, "2:abcde 4:wxyz 6:! 8: "},
		{15, "2:abc 4: 6:! 8: "},
		{1000, "2:abcd 4: 6:! 8: "},
		{-1, "2:abcde 4:wxyz 6:! 8: "},
		{-2, "2:abcd 4:wxy 6:! 8: "},
		{-3, "2:abc 4:wx 6:! 8: "},
		{-5, "2:abcd 4: 6:! 8: "},
		{-15, "2:abc 4: 6:! 8: "},
		// 2^63 - 1 is 1 more than a multiple of 3 and 2 more than one of 5; -2^63 is 2 less than one of 3 and 3 less than one of 5.
		{math.MaxInt, "2:abcd 4:wx 6:! 8: "},
		{math.MinInt, "2:abcd 4:wx 6:! 8: "},
	} {
		for _, stop := range []bool{false, true} {
			d := sample(t)
			if stop {
				d.Arm(0)
				wantErr(t, d, syncOf(2), api.ErrCrash)
			}
			d.Restart(c.keep)
			when := fmt.Sprintf("Restart(%d)", c.keep)
			wantFiles(t, d, when, c.want)
			wantStopped(t, d, when, false)
			d.Restart(0)
			wantFiles(t, d, when+", and all of it is safe", c.want)
		}
	}
}

// Each number of bytes that are not safe is its own modulus.
func TestRestartByLengths(t *testing.T) {
	for size := range 12 {
		for keep := -30; keep <= 30; keep++ {
			d := disk.Of(100)
			must(t, d, appendTo(1, "safe"), syncOf(1), appendTo(1, strings.Repeat("x", size)))
			d.Restart(keep)
			want := keep
			for want < 0 {
				want += size + 1
			}
			for want > size {
				want -= size + 1
			}
			wantFiles(t, d, fmt.Sprintf("Restart(%d) of %d bytes", keep, size), "1:safe"+strings.Repeat("x", want)+" ")
		}
	}
}

func TestRestartOfAnAppendAtTheStop(t *testing.T) {
	for keep, want := range []string{"1:ab ", "1:abc ", "1:abcd ", "1:abcde ", "1:abcdef ", "1:ab "} {
		d := disk.Of(100)
		must(t, d, appendTo(1, "ab"), syncOf(1), appendTo(1, "cd"))
		d.Arm(0)
		wantErr(t, d, appendTo(1, "ef"), api.ErrCrash)
		d.Restart(keep)
		wantFiles(t, d, fmt.Sprintf("Restart(%d)", keep), want)
	}
}

// A file of which nothing was safe is still there.
func TestRestartRemovesNoFile(t *testing.T) {
	d := disk.Of(100)
	d.Arm(0)
	wantErr(t, d, appendTo(7, "abc"), api.ErrCrash)
	d.Restart(0)
	wantFiles(t, d, "Restart(0)", "7: ")
	wantUsed(t, d, "Restart(0)", 0)
	must(t, d, remove(7))
}

// An Append without bytes makes its file even where the disk stops.
func TestAppendOfNoBytesAtTheStop(t *testing.T) {
	d := disk.Of(100)
	d.Arm(0)
	wantErr(t, d, appendTo(7, ""), api.ErrCrash)
	wantFiles(t, d, "stopped", "7: ")
	d.Restart(5)
	wantFiles(t, d, "restarted", "7: ")
}

// What was not safe ahead of a Restart is; what is appended behind it is not.
func TestAppendBehindARestart(t *testing.T) {
	d := sample(t)
	d.Restart(1)
	must(t, d, appendTo(2, "12"), appendTo(4, "34"), appendTo(6, "56"))
	wantFiles(t, d, "behind a Restart", "2:abcd12 4:w34 6:!56 8: ")
	d.Restart(1)
	wantFiles(t, d, "Restart(1)", "2:abcd1 4:w3 6:!5 8: ")
	d.Restart(0)
	wantFiles(t, d, "Restart(0)", "2:abcd1 4:w3 6:!5 8: ")
}

// A file that is made again has none of the safe bytes of the one before.
func TestAFileThatIsMadeAgain(t *testing.T) {
	for _, away := range []call{remove(2), rename(2, 3)} {
		d := sample(t)
		must(t, d, away, appendTo(2, "12345"))
		d.Restart(0)
		if b, ok := d.Read(2); len(b) != 0 || !ok {
			t.Errorf("behind %s: Read(2) = %q, %v, want nothing, true", away.words, b, ok)
		}
	}
}

func TestRestartDisarms(t *testing.T) {
	for _, n := range []int{0, 1, 5} {
		d := sample(t)
		d.Arm(n)
		d.Restart(-1)
		for range 20 {
			must(t, d, syncOf(2))
		}
		wantStopped(t, d, "not armed", false)
	}
	d := sample(t)
	d.Arm(0)
	wantErr(t, d, syncOf(2), api.ErrCrash)
	d.Restart(-1)
	for range 20 {
		must(t, d, syncOf(2))
	}
	wantStopped(t, d, "restarted", false)
}

func TestADiskThatIsNotArmed(t *testing.T) {
	d := sample(t)
	for range 1000 {
		must(t, d, appendTo(1, "x"), syncOf(1), rename(1, 3), cut(3, 0), remove(3))
	}
	wantStopped(t, d, "not armed", false)
	wantFiles(t, d, "not armed", sampleFiles)
}

// Changes ahead of Arm are not counted, and Arm counts anew each time.
func TestArmAgain(t *testing.T) {
	d := sample(t)
	must(t, d, syncOf(6), syncOf(6), syncOf(6))
	d.Arm(3)
	must(t, d, syncOf(6), syncOf(6))
	d.Arm(2)
	must(t, d, syncOf(6), syncOf(6))
	d.Arm(0)
	d.Arm(1)
	must(t, d, syncOf(6))
	wantStopped(t, d, "armed again", false)
	d.Arm(math.MaxInt)
	must(t, d, syncOf(6), syncOf(6))
	d.Arm(-7)
	wantErr(t, d, syncOf(6), api.ErrCrash)
}

// To arm a disk that has stopped does not have it go on, and a Restart disarms it.
func TestArmOfAStoppedDisk(t *testing.T) {
	d := sample(t)
	d.Arm(0)
	wantErr(t, d, syncOf(6), api.ErrCrash)
	for _, n := range []int{5, 0, -1} {
		d.Arm(n)
		wantStopped(t, d, "armed while stopped", true)
		wantErr(t, d, syncOf(6), api.ErrCrash)
	}
	d.Restart(0)
	must(t, d, syncOf(6), syncOf(6))
	wantStopped(t, d, "restarted", false)
}

// All of it, call by call

// plain is the chapter's text once more: files are a list without an order, and each byte tells whether it is safe.
type plain struct {
	room, limit, changes int // a limit of -1: not armed
	stopped              bool
	files                []plainFile
}

type plainFile struct {
	name int
	data []plainByte
}

type plainByte struct {
	value byte
	safe  bool
}

func (p *plain) find(name int) int {
	return slices.IndexFunc(p.files, func(f plainFile) bool { return f.name == name })
}

func (p *plain) text() string {
	fs := slices.Clone(p.files)
	slices.SortFunc(fs, func(a, b plainFile) int { return a.name - b.name })
	var text strings.Builder
	for _, f := range fs {
		fmt.Fprintf(&text, "%d:", f.name)
		for _, b := range f.data {
			text.WriteByte(b.value)
		}
		text.WriteString(" ")
	}
	return text.String()
}

func (p *plain) used() int {
	return len(p.text()) - 3*len(p.files) // names have one digit
}

// run is a change: fault is its own error, may is what an Append does even at the stop, and effect what it does otherwise.
func (p *plain) run(fault api.Errno, may, effect func()) api.Errno {
	switch {
	case p.stopped:
		return api.ErrCrash
	case fault != 0:
		return fault
	case p.changes == p.limit:
		p.stopped = true
		may()
		return api.ErrCrash
	}
	p.changes++
	may()
	effect()
	return 0
}

func (p *plain) unknown(name int) api.Errno {
	if p.find(name) < 0 {
		return api.ErrUnknown
	}
	return 0
}

func nothing() {}

func (p *plain) append(name int, b []byte) api.Errno {
	var fault api.Errno
	if p.used()+len(b) > p.room {
		fault = api.ErrFull
	}
	return p.run(fault, func() {
		if p.find(name) < 0 {
			p.files = append(p.files, plainFile{name: name})
		}
		f := &p.files[p.find(name)]
		for _, c := range b {
			f.data = append(f.data, plainByte{c, false})
		}
	}, nothing)
}

func (p *plain) makeSafe(at int) {
	for i := range p.files[at].data {
		p.files[at].data[i].safe = true
	}
}

func (p *plain) sync(name int) api.Errno {
	return p.run(p.unknown(name), nothing, func() { p.makeSafe(p.find(name)) })
}

func (p *plain) remove(name int) api.Errno {
	return p.run(p.unknown(name), nothing, func() { p.files = slices.Delete(p.files, p.find(name), p.find(name)+1) })
}

func (p *plain) rename(from, to int) api.Errno {
	return p.run(p.unknown(from), nothing, func() {
		if from == to {
			return
		}
		p.files = slices.DeleteFunc(p.files, func(f plainFile) bool { return f.name == to })
		p.files[p.find(from)].name = to
	})
}

func (p *plain) cut(name, n int) api.Errno {
	fault := p.unknown(name)
	if fault == 0 && (n < 0 || n > len(p.files[p.find(name)].data)) {
		fault = api.ErrArgument
	}
	return p.run(fault, nothing, func() {
		at := p.find(name)
		p.files[at].data = p.files[at].data[:n:n]
		p.makeSafe(at)
	})
}

func (p *plain) restart(keep int) {
	for at, f := range p.files {
		safe := 0
		for safe < len(f.data) && f.data[safe].safe {
			safe++
		}
		m := len(f.data) - safe + 1
		n := safe + (keep%m+m)%m
		p.files[at].data = f.data[:n:n]
		p.makeSafe(at)
	}
	p.stopped, p.limit, p.changes = false, -1, 0
}

// draw are numbers that look like chance, the same ones each time.
type draw uint64

func (s *draw) below(n int) int {
	*s = *s*6364136223846793005 + 1442695040888963407
	return int(uint64(*s)>>33) % n
}

// step is the same call, drawn, at both; it answers with what was asked and what each one told.
func step(s *draw, d *disk.Disk, p *plain) (string, error, api.Errno) {
	name, other, n := s.below(4), s.below(4), s.below(14)-2
	switch s.below(12) {
	case 0, 1, 2, 3:
		b := []byte("0123456789abcdef")[s.below(10):][:s.below(6)]
		return fmt.Sprintf("Append(%d, %q)", name, b), d.Append(name, b), p.append(name, b)
	case 4, 5:
		return fmt.Sprintf("Sync(%d)", name), d.Sync(name), p.sync(name)
	case 6:
		return fmt.Sprintf("Rename(%d, %d)", name, other), d.Rename(name, other), p.rename(name, other)
	case 7:
		return fmt.Sprintf("Remove(%d)", name), d.Remove(name), p.remove(name)
	case 8, 9:
		return fmt.Sprintf("Cut(%d, %d)", name, n), d.Cut(name, n), p.cut(name, n)
	case 10:
		d.Arm(n)
		p.limit, p.changes = max(n, 0), 0
		return fmt.Sprintf("Arm(%d)", n), nil, 0
	}
	keep := s.below(41) - 20
	d.Restart(keep)
	p.restart(keep)
	return fmt.Sprintf("Restart(%d)", keep), nil, 0
}

func TestCallByCall(t *testing.T) {
	told := map[api.Errno]int{}
	for seed := range 400 {
		s := draw(seed)
		room := s.below(40)
		d, p := disk.Of(room), &plain{room: room, limit: -1}
		for range 200 {
			words, err, want := step(&s, d, p)
			told[want]++
			if api.Number(err) != want || (err == nil) != (want == 0) {
				t.Fatalf("seed %d: %s = %v, want %v", seed, words, err, want)
			}
			if files(d) != p.text() || d.Used() != p.used() || d.Stopped() != p.stopped {
				t.Fatalf("seed %d: behind %s: %q, %d, %v, want %q, %d, %v", seed, words, files(d), d.Used(), d.Stopped(), p.text(), p.used(), p.stopped)
			}
		}
	}
	for _, e := range []api.Errno{0, api.ErrCrash, api.ErrFull, api.ErrUnknown, api.ErrArgument} {
		if told[e] < 500 {
			t.Errorf("the drawn calls told %v only %d times", e, told[e])
		}
	}
}
