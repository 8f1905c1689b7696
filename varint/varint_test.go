package varint_test

import (
	"bytes"
	"math"
	"math/big"
	"slices"
	"testing"

	"hawala/varint"
)

// encodings are written out by hand: no code of the package made them.
var encodings = []struct {
	n    int
	code string
}{
	{0, "\x00"},
	{-1, "\x01"},
	{1, "\x02"},
	{-2, "\x03"},
	{63, "\x7e"},
	{-64, "\x7f"},
	{64, "\x80\x01"},
	{-65, "\x81\x01"},
	{65, "\x82\x01"},
	{127, "\xfe\x01"},
	{128, "\x80\x02"},
	{150, "\xac\x02"},
	{8191, "\xfe\x7f"},
	{-8192, "\xff\x7f"},
	{8192, "\x80\x80\x01"},
	{-8193, "\x81\x80\x01"},
	{1 << 40, "\x80\x80\x80\x80\x80\x40"},
	{1 << 61, "\x80\x80\x80\x80\x80\x80\x80\x80\x40"},
	{1<<62 - 1, "\xfe\xff\xff\xff\xff\xff\xff\xff\x7f"},
	{-1 << 62, "\xff\xff\xff\xff\xff\xff\xff\xff\x7f"},
	{1 << 62, "\x80\x80\x80\x80\x80\x80\x80\x80\x80\x01"},
	{-1<<62 - 1, "\x81\x80\x80\x80\x80\x80\x80\x80\x80\x01"},
	{math.MaxInt, "\xfe\xff\xff\xff\xff\xff\xff\xff\xff\x01"},
	{math.MinInt, "\xff\xff\xff\xff\xff\xff\xff\xff\xff\x01"},
}

// wrong are bytes that begin with no encoding.
var wrong = []string{
	"",
	"\x80",
	"\xff",
	"\x80\x80",
	"\xff\xff\xff\xff\xff\xff\xff\xff\xff",
	// Longer than they must be.
	"\x80\x00",
	"\x81\x00",
	"\xff\x00",
	"\x80\x80\x00",
	"\xff\xff\x00\x01",
	"\x80\x00\x01",
	"\x80\x80\x80\x80\x80\x80\x80\x80\x80\x00",
	"\xff\xff\xff\xff\xff\xff\xff\xff\xff\x00",
	// More than 64 bits.
	"\x80\x80\x80\x80\x80\x80\x80\x80\x80\x02",
	"\xff\xff\xff\xff\xff\xff\xff\xff\xff\x02",
	"\xff\xff\xff\xff\xff\xff\xff\xff\xff\x03",
	"\xff\xff\xff\xff\xff\xff\xff\xff\xff\x7f",
	"\xff\xff\xff\xff\xff\xff\xff\xff\xff\x80",
	"\xff\xff\xff\xff\xff\xff\xff\xff\xff\x81\x00",
	"\x80\x80\x80\x80\x80\x80\x80\x80\x80\x80\x01",
	"\x81\x80\x80\x80\x80\x80\x80\x80\x80\x80\x80\x80\x80\x80\x80\x80\x80\x80\x01",
}

// samples are the numbers around each power of 2, either way.
func samples() []int {
	ns := []int{0, math.MinInt, math.MaxInt}
	for i := range 63 {
		for d := -2; d <= 2; d++ {
			ns = append(ns, 1<<i+d, -1<<i+d)
		}
	}
	return ns
}

// encode is P2.1's text by numbers that can't wrap around.
func encode(n int) []byte {
	u := big.NewInt(int64(n))
	if n < 0 {
		u.Sub(big.NewInt(-1), u)
		u.Mul(u, big.NewInt(2))
		u.Add(u, big.NewInt(1))
	} else {
		u.Mul(u, big.NewInt(2))
	}
	var b []byte
	for {
		group := new(big.Int)
		u.DivMod(u, big.NewInt(128), group)
		if u.Sign() == 0 {
			return append(b, byte(group.Int64()))
		}
		b = append(b, byte(group.Int64()+128))
	}
}

// P2.1

func TestPut(t *testing.T) {
	for _, c := range encodings {
		if b := varint.Put(nil, c.n); string(b) != c.code {
			t.Errorf("Put(nil, %d) = %x, want %x", c.n, b, c.code)
		}
		if b := varint.Put([]byte{}, c.n); string(b) != c.code {
			t.Errorf("Put of no bytes, %d = %x, want %x", c.n, b, c.code)
		}
		if b := varint.Put([]byte("\x80\x00z"), c.n); string(b) != "\x80\x00z"+c.code {
			t.Errorf("Put behind bytes, %d = %x, want %x behind them", c.n, b, c.code)
		}
	}
}

func TestPutBySamples(t *testing.T) {
	for _, n := range samples() {
		if b, want := varint.Put(nil, n), encode(n); !bytes.Equal(b, want) {
			t.Errorf("Put(nil, %d) = %x, want %x", n, b, want)
		}
	}
}

func TestPutLeavesItsBytesAlone(t *testing.T) {
	store := []byte("abcdefghijklmnop")
	b := varint.Put(store[:3], math.MinInt)
	if string(store) != "abcdefghijklmnop" {
		t.Errorf("Put wrote behind the bytes that it was given: %q", store)
	}
	b[0] = 'z'
	if store[0] != 'a' {
		t.Error("Put's answer shares memory with its argument")
	}
	store[1] = 'y'
	if b[1] != 'b' {
		t.Error("Put's answer shares memory with its argument")
	}
}

func TestPutAnswersApart(t *testing.T) {
	b := varint.Put([]byte("a"), 1)
	first, second := varint.Put(b, 2), varint.Put(b, 3)
	if string(first) != "a\x02\x04" || string(second) != "a\x02\x06" {
		t.Errorf("two answers from the same bytes: %x, %x", first, second)
	}
}

func TestAll(t *testing.T) {
	if b := varint.All(); len(b) != 0 {
		t.Errorf("All() = %x", b)
	}
	if b := varint.All(5, -6, 700, 0, 0); string(b) != "\x0a\x0b\xf8\x0a\x00\x00" {
		t.Errorf("All(5, -6, 700, 0, 0) = %x", b)
	}
	var ns []int
	var want string
	for _, c := range encodings {
		if b := varint.All(c.n); string(b) != c.code {
			t.Errorf("All(%d) = %x, want %x", c.n, b, c.code)
		}
		ns = append(ns, c.n)
		want += c.code
	}
	kept := slices.Clone(ns)
	if b := varint.All(ns...); string(b) != want {
		t.Errorf("All(%d) = %x, want %x", ns, b, want)
	}
	if !slices.Equal(ns, kept) {
		t.Error("All changed its numbers")
	}
}

// P2.2

func TestGet(t *testing.T) {
	for _, c := range encodings {
		for _, tail := range []string{"", "x", "\x00", "\x80", "\xff\x00", "\x01\x02"} {
			n, rest, ok := varint.Get([]byte(c.code + tail))
			if n != c.n || string(rest) != tail || !ok {
				t.Errorf("Get(%x) = %d, %x, %v, want %d, %x, true", c.code+tail, n, rest, ok, c.n, tail)
			}
		}
	}
}

func TestGetReadsWhatPutLays(t *testing.T) {
	for _, n := range samples() {
		m, rest, ok := varint.Get(varint.Put(nil, n))
		if m != n || len(rest) != 0 || !ok {
			t.Errorf("%d is read as %d, %x, %v", n, m, rest, ok)
		}
	}
}

func TestGetOfWrongBytes(t *testing.T) {
	for _, s := range append(wrong, string(bytes.Repeat([]byte{0x80}, 1000))) {
		if n, rest, ok := varint.Get([]byte(s)); n != 0 || len(rest) != 0 || ok {
			t.Errorf("Get(%x) = %d, %x, %v", s, n, rest, ok)
		}
	}
	if n, rest, ok := varint.Get(nil); n != 0 || len(rest) != 0 || ok {
		t.Errorf("Get(nil) = %d, %x, %v", n, rest, ok)
	}
}

func TestGetOfBytesThatEndWithin(t *testing.T) {
	for _, c := range encodings {
		for i := range len(c.code) {
			if n, rest, ok := varint.Get([]byte(c.code[:i])); n != 0 || len(rest) != 0 || ok {
				t.Errorf("Get(%x) = %d, %x, %v", c.code[:i], n, rest, ok)
			}
		}
	}
}

// Each number has only one encoding: what is read and laid again is what was there.
func TestGetTakesOneEncodingOnly(t *testing.T) {
	check := func(b []byte) {
		n, rest, ok := varint.Get(b)
		if ok && !bytes.Equal(append(encode(n), rest...), b) {
			t.Errorf("Get(%x) = %d, %x, whose encoding is another one", b, n, rest)
		}
	}
	for i := range 1 << 16 {
		check([]byte{byte(i), byte(i >> 8)})
		check([]byte{byte(i) | 0x80, byte(i >> 8), 1})
		check(append(bytes.Repeat([]byte{0x80}, 8), byte(i), byte(i>>8)))
		check(append(bytes.Repeat([]byte{0xff}, 8), byte(i), byte(i>>8)))
	}
}

func TestGetLeavesItsBytesAlone(t *testing.T) {
	b := []byte("\x02abc")
	_, rest, _ := varint.Get(b)
	rest[0] = 'z'
	b[2] = 'y'
	if string(b) != "\x02ayc" || string(rest) != "zbc" {
		t.Errorf("Get's rest shares memory with its argument: %q, %q", b, rest)
	}
}

func TestTake(t *testing.T) {
	b := []byte("\x0a\x0b\xf8\x0a\x00")
	for n, want := range []struct {
		ns   []int
		rest string
	}{
		{nil, "\x0a\x0b\xf8\x0a\x00"},
		{[]int{5}, "\x0b\xf8\x0a\x00"},
		{[]int{5, -6}, "\xf8\x0a\x00"},
		{[]int{5, -6, 700}, "\x00"},
		{[]int{5, -6, 700, 0}, ""},
	} {
		ns, rest, ok := varint.Take(b, n)
		if !slices.Equal(ns, want.ns) || string(rest) != want.rest || !ok {
			t.Errorf("Take(%x, %d) = %d, %x, %v, want %d, %x, true", b, n, ns, rest, ok, want.ns, want.rest)
		}
	}
}

func TestTakeOfNone(t *testing.T) {
	for _, s := range append(wrong, "\x00", "\x02\x04", "abc") {
		for _, n := range []int{0, -1, -2, math.MinInt} {
			ns, rest, ok := varint.Take([]byte(s), n)
			if len(ns) != 0 || string(rest) != s || !ok {
				t.Errorf("Take(%x, %d) = %d, %x, %v", s, n, ns, rest, ok)
			}
		}
	}
	if ns, rest, ok := varint.Take(nil, 0); len(ns) != 0 || len(rest) != 0 || !ok {
		t.Errorf("Take(nil, 0) = %d, %x, %v", ns, rest, ok)
	}
}

func TestTakeOfTooFew(t *testing.T) {
	fails := func(s string, n int) {
		ns, rest, ok := varint.Take([]byte(s), n)
		if len(ns) != 0 || len(rest) != 0 || ok {
			t.Errorf("Take(%x, %d) = %d, %x, %v", s, n, ns, rest, ok)
		}
	}
	for _, n := range []int{3, 4, 1 << 32, 1 << 62, math.MaxInt} {
		fails("", n)
		fails("\x02", n)
		fails("\x02\x04", n)
		fails("\x02\x04\x80", n)
		fails("\x02\x04\xff\x00\x02\x02", n)
		fails("\x80\x00\x02\x02\x02\x02", n)
	}
	for _, s := range wrong {
		fails(s, 1)
		fails("\x02"+s, 2)
	}
}

func TestTakeReadsWhatAllLays(t *testing.T) {
	want := samples()
	ns, rest, ok := varint.Take(varint.All(want...), len(want))
	if !slices.Equal(ns, want) || len(rest) != 0 || !ok {
		t.Errorf("Take of All: %d, %x, %v", ns, rest, ok)
	}
	if ns, rest, ok := varint.Take(varint.All(want...), len(want)+1); len(ns) != 0 || len(rest) != 0 || ok {
		t.Errorf("Take of one more than All: %d, %x, %v", ns, rest, ok)
	}
}

func TestTakeLeavesItsBytesAlone(t *testing.T) {
	for n, want := range []string{"\x02\x04abc", "\x04abc", "abc"} {
		b := []byte("\x02\x04abc")
		_, rest, _ := varint.Take(b, n)
		clear(b)
		if string(rest) != want {
			t.Errorf("the rest of Take of %d shares memory with its argument: %q", n, rest)
		}
	}
}
