package frame_test

import (
	"bytes"
	"encoding/binary"
	"hash/crc32"
	"slices"
	"strings"
	"testing"

	"hawala/api"
	"hawala/frame"
)

// frames are written out by hand: no code of the package made them.
var frames = []struct {
	record, frame string
}{
	{"", "\x00\x00\x00\x00\x00\x00"},
	{"\x00", "\x00\x01\xd2\x02\xef\x8d\x00"},
	{"\xff", "\x00\x01\xff\x00\x00\x00\xff"},
	{"a", "\x00\x01\xe8\xb7\xbe\x43a"},
	{"abc", "\x00\x03\x35\x24\x41\xc2abc"},
	{"123456789", "\x00\x09\xcb\xf4\x39\x26123456789"},
	// Its sum is 0, as that of the empty record.
	{"\x9d\x0a\xd9\x6d", "\x00\x04\x00\x00\x00\x00\x9d\x0a\xd9\x6d"},
	{"\xff\xff\xff\xff", "\x00\x04\xff\xff\xff\xff\xff\xff\xff\xff"},
	{strings.Repeat("\x00", 32), "\x00\x20\x19\x0a\x55\xad" + strings.Repeat("\x00", 32)},
	{"The quick brown fox jumps over the lazy dog", "\x00\x2b\x41\x4f\xa3\x39The quick brown fox jumps over the lazy dog"},
	// A record that is a frame itself.
	{"\x00\x00\x00\x00\x00\x00", "\x00\x06\xb1\xc2\xa1\xa3\x00\x00\x00\x00\x00\x00"},
}

// wrong are bytes that begin with no frame.
var wrong = []string{
	"",
	"\x00",
	"\x00\x00\x00\x00\x00",
	"abc",
	"abcdefghijklmnop",
	"\x00\x00\x00\x00\x00\x01",
	"\x00\x00\x01\x00\x00\x00",
	// The sum of no bytes would be this one, if the register were not complemented, or not all ones at first.
	"\x00\x00\xff\xff\xff\xff",
	"\xff\xff\xff\xff\xff\xff",
	// A right frame, but for a byte ahead of it.
	"\x01\x00\x01\xe8\xb7\xbe\x43a",
	"a\x00\x00\x00\x00\x00\x00",
	// The length is less than that of the record, or more.
	"\x00\x00\xe8\xb7\xbe\x43a",
	"\x00\x02\xe8\xb7\xbe\x43a",
	"\x00\x02\xe8\xb7\xbe\x43ab",
	"\x01\x01\xe8\xb7\xbe\x43a",
	// The least significant byte first.
	"\x01\x00\xe8\xb7\xbe\x43a",
	"\x00\x01\x43\xbe\xb7\xe8a",
	// The sum ahead of the length, and the sum of a length and a record.
	"\xe8\xb7\xbe\x43\x00\x01a",
	"\x00\x01\xdc\xef\xb9\x9da",
}

// lengths are those of records, up to the longest one, each side of what one byte tells.
var lengths = []int{0, 1, 2, 3, 5, 6, 7, 63, 127, 128, 255, 256, 257, 300, 511, 512, 1000, 4095, 8191, 8192, api.MaxRecord - 1, api.MaxRecord}

// tooLong are lengths of records without a frame: with the last ones the two bytes of the length would wrap around.
var tooLong = []int{api.MaxRecord + 1, api.MaxRecord + 2, 1<<15 - 1, 1 << 15, 1<<16 - 1, 1 << 16, 1<<16 + 1, 1<<16 + api.MaxRecord, 1 << 20}

// sample is a record of that length, the same one each time.
func sample(size int) []byte {
	b := make([]byte, size)
	state := uint32(size + 1)
	for i := range b {
		state = state*1664525 + 1013904223
		b[i] = byte(state >> 24)
	}
	return b
}

// layout is P4.1's text by the library, for a record of any length.
func layout(record []byte) []byte {
	b := binary.BigEndian.AppendUint16(nil, uint16(len(record)))
	b = binary.BigEndian.AppendUint32(b, crc32.ChecksumIEEE(record))
	return append(b, record...)
}

// texts are records that can be compared.
func texts(records [][]byte) []string {
	var ts []string
	for _, r := range records {
		ts = append(ts, string(r))
	}
	return ts
}

// several are records, and their frames one behind the other.
func several() ([]string, []byte) {
	var records []string
	var b []byte
	for _, c := range frames {
		records = append(records, c.record)
		b = append(b, c.frame...)
	}
	return records, b
}

func wantNone(t *testing.T, what string, b []byte) {
	t.Helper()
	if record, n, ok := frame.One(b); len(record) != 0 || n != 0 || ok {
		t.Errorf("One of %q = %d bytes, %d, %v, want nothing, 0, false", what, len(record), n, ok)
	}
	if records, n := frame.Scan(b); len(records) != 0 || n != 0 {
		t.Errorf("Scan of %q = %d records, %d, want none, 0", what, len(records), n)
	}
}

func wantScan(t *testing.T, what string, b []byte, records []string, n int) {
	t.Helper()
	rs, m := frame.Scan(b)
	if !slices.Equal(texts(rs), records) || m != n {
		t.Errorf("Scan of %q = %d records, %d, want %d, %d", what, len(rs), m, len(records), n)
	}
}

// P4.1: Make

func TestHead(t *testing.T) {
	if frame.Head != 6 {
		t.Errorf("Head = %d", frame.Head)
	}
}

func TestMake(t *testing.T) {
	for _, c := range frames {
		if b, ok := frame.Make([]byte(c.record)); string(b) != c.frame || !ok {
			t.Errorf("Make(%q) = %x, %v, want %x, true", c.record, b, ok, c.frame)
		}
	}
}

func TestMakeOfNoBytes(t *testing.T) {
	for _, record := range [][]byte{nil, {}} {
		if b, ok := frame.Make(record); string(b) != "\x00\x00\x00\x00\x00\x00" || !ok {
			t.Errorf("Make(%#v) = %x, %v, want six zero bytes, true", record, b, ok)
		}
	}
}

func TestMakeByLengths(t *testing.T) {
	for _, size := range lengths {
		record := sample(size)
		if b, ok := frame.Make(record); !bytes.Equal(b, layout(record)) || !ok {
			t.Errorf("Make of %d bytes = %d bytes, %v, want the %d of its frame, true", size, len(b), ok, size+6)
		}
	}
}

func TestMakeOfTooLongRecords(t *testing.T) {
	for _, size := range tooLong {
		if b, ok := frame.Make(sample(size)); len(b) != 0 || ok {
			t.Errorf("Make of %d bytes = %d bytes, %v, want nothing, false", size, len(b), ok)
		}
	}
}

func TestMakeLeavesItsBytesAlone(t *testing.T) {
	store := []byte("abcdefghijklmnop")
	b, _ := frame.Make(store[:3])
	if string(store) != "abcdefghijklmnop" {
		t.Errorf("Make changed its bytes: %q", store)
	}
	b[6] = 'z'
	if store[0] != 'a' {
		t.Error("Make's answer shares memory with its argument")
	}
	store[1] = 'y'
	if b[7] != 'b' {
		t.Error("Make's answer shares memory with its argument")
	}
}

func TestMakeAnswersApart(t *testing.T) {
	first, _ := frame.Make([]byte("a"))
	second, _ := frame.Make([]byte("a"))
	clear(first)
	third, _ := frame.Make([]byte("a"))
	for _, b := range [][]byte{second, third} {
		if string(b) != "\x00\x01\xe8\xb7\xbe\x43a" {
			t.Errorf("Make(\"a\") beside another answer = %x", b)
		}
	}
}

// P4.1: One

func TestOne(t *testing.T) {
	for _, c := range frames {
		for _, tail := range []string{"", "x", "\x00", "\xff\xff\xff\xff\xff\xff\xff", "\x00\x00\x00\x00\x00\x00", c.frame} {
			record, n, ok := frame.One([]byte(c.frame + tail))
			if string(record) != c.record || n != len(c.frame) || !ok {
				t.Errorf("One(%x) = %q, %d, %v, want %q, %d, true", c.frame+tail, record, n, ok, c.record, len(c.frame))
			}
		}
	}
}

func TestOneByLengths(t *testing.T) {
	for _, size := range lengths {
		want := sample(size)
		for _, tail := range []int{0, 1, 6, 1 << 16} {
			record, n, ok := frame.One(append(layout(want), sample(tail)...))
			if !bytes.Equal(record, want) || n != size+6 || !ok {
				t.Errorf("One of a frame of %d bytes and %d more = %d bytes, %d, %v", size, tail, len(record), n, ok)
			}
		}
	}
}

func TestOneReadsWhatMakeLays(t *testing.T) {
	for size := range 600 {
		want := sample(size)
		b, _ := frame.Make(want)
		if record, n, ok := frame.One(b); !bytes.Equal(record, want) || n != len(b) || !ok {
			t.Errorf("the frame of %d bytes is read as %d bytes, %d, %v", size, len(record), n, ok)
		}
	}
}

// Six zero bytes are a frame whatever is behind them, even where another length was meant.
func TestOneOfZeroBytes(t *testing.T) {
	for _, tail := range []string{"", "\x00", "\x9d\x0a\xd9\x6d", "abcdefghijklmnop"} {
		b := []byte("\x00\x00\x00\x00\x00\x00" + tail)
		if record, n, ok := frame.One(b); len(record) != 0 || n != 6 || !ok {
			t.Errorf("One(%x) = %x, %d, %v, want an empty record, 6, true", b, record, n, ok)
		}
	}
}

func TestNoFrame(t *testing.T) {
	wantNone(t, "nil", nil)
	for _, s := range wrong {
		wantNone(t, "wrong bytes "+s, []byte(s))
	}
}

// A length that Make does not take is none of a frame, though the sum is right and all bytes are there.
func TestNoFrameOfTooLongRecords(t *testing.T) {
	for _, size := range tooLong {
		if size < 1<<16 {
			wantNone(t, "a record that is too long", layout(sample(size)))
			wantNone(t, "a record that is too long, and more", append(layout(sample(size)), layout(nil)...))
		}
	}
}

func TestNoFrameWithoutItsEnd(t *testing.T) {
	for _, c := range frames {
		for i := range len(c.frame) {
			wantNone(t, "a frame without its end", []byte(c.frame[:i]))
		}
	}
	for _, size := range lengths {
		b := layout(sample(size))
		for _, cut := range []int{0, 1, 2, 5, len(b) / 2, len(b) - 1} {
			if cut < len(b) {
				wantNone(t, "a long frame without its end", b[:cut])
			}
		}
	}
}

// What stands behind a slice's end is not of its bytes.
func TestNoFrameBehindTheEnd(t *testing.T) {
	store := []byte("\x00\x01\xe8\xb7\xbe\x43a\x00\x00\x00\x00\x00\x00")
	wantNone(t, "a frame that goes on in the store", store[:6])
	wantScan(t, "frames that go on in the store", store[:12], []string{"a"}, 7)
}

func TestNoFrameWithAChangedBit(t *testing.T) {
	for _, c := range frames {
		for i := range 8 * len(c.frame) {
			torn := []byte(c.frame)
			torn[i/8] ^= 1 << (i % 8)
			if bytes.HasPrefix(torn, make([]byte, 6)) {
				continue // It became the frame of an empty record.
			}
			wantNone(t, "a frame with a changed bit", torn)
			wantNone(t, "a frame with a changed bit, and more", append(torn, sample(1<<16)...))
		}
	}
}

func TestNoFrameWithAChangedByte(t *testing.T) {
	b := layout(sample(api.MaxRecord))
	for _, at := range []int{0, 1, 2, 3, 4, 5, 6, 7, 255, 256, 262, 8192, len(b) - 2, len(b) - 1} {
		for _, by := range []byte{1, 128, 255} {
			torn := bytes.Clone(b)
			torn[at] += by
			wantNone(t, "a long frame with a changed byte", torn)
		}
	}
}

func TestOneLeavesItsBytesAlone(t *testing.T) {
	store := []byte("\x00\x03\x35\x24\x41\xc2abcdef")
	record, _, _ := frame.One(store)
	_ = append(record, 'x')
	record[0] = 'z'
	if string(store) != "\x00\x03\x35\x24\x41\xc2abcdef" {
		t.Errorf("One's answer shares memory with its argument: %q", store)
	}
	store[7] = 'y'
	if string(record) != "zbc" {
		t.Errorf("One's answer shares memory with its argument: %q", record)
	}
}

// P4.2

func TestScan(t *testing.T) {
	records, b := several()
	wantScan(t, "several frames", b, records, len(b))
	for _, c := range frames {
		wantScan(t, "one frame", []byte(c.frame), []string{c.record}, len(c.frame))
		wantScan(t, "the same frame twice", []byte(c.frame+c.frame), []string{c.record, c.record}, 2*len(c.frame))
	}
}

func TestScanByLengths(t *testing.T) {
	var want []string
	var b []byte
	for _, size := range slices.Concat(lengths, lengths) {
		want = append(want, string(sample(size)))
		b = append(b, layout(sample(size))...)
		wantScan(t, "frames of many lengths", b, want, len(b))
	}
}

func TestScanReadsWhatMakeLays(t *testing.T) {
	var want []string
	var b []byte
	for size := range 300 {
		made, _ := frame.Make(sample(size))
		want = append(want, string(sample(size)))
		b = append(b, made...)
	}
	wantScan(t, "frames that Make laid", b, want, len(b))
}

// Zero bytes are the frames of empty records, by sixes.
func TestScanOfZeroBytes(t *testing.T) {
	for size := range 40 {
		wantScan(t, "zero bytes", make([]byte, size), make([]string, size/6), size/6*6)
	}
	wantScan(t, "many zero bytes", make([]byte, 600005), make([]string, 100000), 600000)
}

func TestScanWithoutTheEnd(t *testing.T) {
	records, b := several()
	many, n := 0, 0
	for i := range len(b) {
		if i == n+len(frames[many].frame) {
			n = i
			many++
		}
		wantScan(t, "frames without the end", b[:i], records[:many], n)
	}
}

func TestScanWithAChangedByte(t *testing.T) {
	records, b := several()
	n := 0
	for many, c := range frames {
		for at := n; at < n+len(c.frame); at++ {
			torn := bytes.Clone(b)
			torn[at] ^= 0x55
			wantScan(t, "frames with a changed byte", torn, records[:many], n)
		}
		n += len(c.frame)
	}
}

// What is behind the last frame ends the records, even where frames follow.
func TestScanOfWhatIsBehind(t *testing.T) {
	records, b := several()
	for _, s := range wrong {
		wantScan(t, "frames and wrong bytes", []byte(string(b)+s), records, len(b))
		if len(s) >= 6 {
			wantScan(t, "frames, wrong bytes and frames", []byte(string(b)+s+string(b)), records, len(b))
		}
	}
	for _, size := range tooLong {
		if size < 1<<16 {
			wantScan(t, "frames and a record that is too long", slices.Concat(b, layout(sample(size)), b), records, len(b))
		}
	}
}

func TestScanLeavesItsBytesAlone(t *testing.T) {
	records, b := several()
	kept := bytes.Clone(b)
	rs, _ := frame.Scan(b)
	if !bytes.Equal(b, kept) {
		t.Error("Scan changed its bytes")
	}
	clear(b)
	if !slices.Equal(texts(rs), records) {
		t.Error("Scan's answer shares memory with its argument")
	}
}

func TestScanRecordsApart(t *testing.T) {
	records, b := several()
	rs, _ := frame.Scan(b)
	for i := range rs {
		_ = append(rs[i], "more than there was"...)
		if !slices.Equal(texts(rs), records) {
			t.Fatalf("what is laid behind record %d is seen in another one", i)
		}
	}
	for i := range rs {
		clear(rs[i])
		if !slices.Equal(texts(rs[i+1:]), records[i+1:]) {
			t.Fatalf("what is written into record %d is seen in another one", i)
		}
	}
	wantScan(t, "the same frames once more", b, records, len(b))
}

func TestScanDependsOnItsBytesAlone(t *testing.T) {
	records, b := several()
	for range 2 {
		wantScan(t, "frames", b, records, len(b))
		wantScan(t, "wrong bytes", []byte("wrong bytes"), nil, 0)
	}
}
