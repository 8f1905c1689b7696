package crc_test

import (
	"bytes"
	"hash/crc32"
	"slices"
	"strings"
	"testing"

	"hawala/crc"
)

// sums are known from elsewhere: no code of the package made them.
var sums = []struct {
	text string
	sum  uint32
}{
	{"", 0},
	{"123456789", 0xcbf43926},
	{"a", 0xe8b7be43},
	{"abc", 0x352441c2},
	{"The quick brown fox jumps over the lazy dog", 0x414fa339},
	{"\x00", 0xd202ef8d},
	{"\xff", 0xff000000},
	{strings.Repeat("\x00", 32), 0x190a55ad},
	{strings.Repeat("\xff", 32), 0xff6cab0b},
	// The register is 0 behind these.
	{"\xff\xff\xff\xff", 0xffffffff},
	// The register is behind these what it was at first.
	{"\x9d\x0a\xd9\x6d", 0},
}

// samples are bytes of many lengths, the same ones each time.
func samples() [][]byte {
	var all [][]byte
	state := uint32(1)
	for _, size := range []int{0, 1, 2, 3, 4, 5, 7, 8, 9, 15, 16, 17, 63, 64, 65, 255, 256, 257, 1000, 16384, 65537} {
		b := make([]byte, size)
		for i := range b {
			state = state*1664525 + 1013904223
			b[i] = byte(state >> 24)
		}
		all = append(all, b)
	}
	return all
}

// bitwise is P3.1's text, step by step, each in 64 bits.
func bitwise(b []byte) uint32 {
	register := uint64(1<<32 - 1)
	for _, c := range b {
		low := register % 256
		register = register - low + (low ^ uint64(c))
		for range 8 {
			out := register % 2
			register /= 2
			if out == 1 {
				register ^= 0xedb88320
			}
		}
	}
	return uint32(1<<32 - 1 - register)
}

// inParts is the sum of a Running that got b in parts of that size.
func inParts(b []byte, size int) uint32 {
	var s crc.Running
	for part := range slices.Chunk(b, size) {
		s.Write(part...)
	}
	return s.Sum()
}

// P3.1: Sum

func TestSum(t *testing.T) {
	for _, c := range sums {
		if n := crc.Sum([]byte(c.text)); n != c.sum {
			t.Errorf("Sum(%q) = %#x, want %#x", c.text, n, c.sum)
		}
	}
}

func TestSumOfNoBytes(t *testing.T) {
	if n := crc.Sum(nil); n != 0 {
		t.Errorf("Sum(nil) = %#x", n)
	}
	if n := crc.Sum([]byte{}); n != 0 {
		t.Errorf("Sum of no bytes = %#x", n)
	}
}

func TestSumOfEachByte(t *testing.T) {
	for i := range 256 {
		for _, b := range [][]byte{{byte(i)}, {byte(i), 0}, {0, byte(i)}, {byte(i), byte(i)}} {
			if n, want := crc.Sum(b), bitwise(b); n != want {
				t.Errorf("Sum(%x) = %#x, want %#x", b, n, want)
			}
		}
	}
}

func TestSumBySamples(t *testing.T) {
	for _, b := range samples() {
		n := crc.Sum(b)
		if want := bitwise(b); n != want {
			t.Errorf("Sum of %d bytes = %#x, want %#x", len(b), n, want)
		}
		if want := crc32.ChecksumIEEE(b); n != want {
			t.Errorf("Sum of %d bytes = %#x, want %#x as the library has it", len(b), n, want)
		}
	}
}

func TestSumDependsOnItsBytesAlone(t *testing.T) {
	crc.Sum([]byte("something else"))
	store := []byte("123456789 and more")
	for range 2 {
		if n := crc.Sum(store[:9]); n != 0xcbf43926 {
			t.Errorf("Sum of the beginning = %#x", n)
		}
	}
	if string(store) != "123456789 and more" {
		t.Errorf("Sum changed its bytes: %q", store)
	}
}

// Torn bytes are known: each changed bit, and each end that is missing, has another sum.
func TestSumOfTornBytes(t *testing.T) {
	b := []byte("123456789")
	for i := range 8 * len(b) {
		torn := bytes.Clone(b)
		torn[i/8] ^= 1 << (i % 8)
		if crc.Sum(torn) == crc.Sum(b) {
			t.Errorf("Sum(%q) = Sum(%q)", torn, b)
		}
	}
	for i := range b {
		if crc.Sum(b[:i]) == crc.Sum(b) {
			t.Errorf("Sum(%q) = Sum(%q)", b[:i], b)
		}
	}
}

// P3.1: Running

func TestRunningOfNothing(t *testing.T) {
	var s crc.Running
	if n := s.Sum(); n != 0 {
		t.Errorf("the Sum of a zero Running = %#x", n)
	}
	s.Write()
	s.Write(nil...)
	s.Write([]byte{}...)
	if n := s.Sum(); n != 0 {
		t.Errorf("the Sum behind empty parts = %#x", n)
	}
}

func TestRunningOfOnePart(t *testing.T) {
	for _, c := range sums {
		var s crc.Running
		s.Write([]byte(c.text)...)
		if n := s.Sum(); n != c.sum {
			t.Errorf("the Sum of %q in one part = %#x, want %#x", c.text, n, c.sum)
		}
	}
}

func TestRunningOfSingleBytes(t *testing.T) {
	var s crc.Running
	s.Write('1', '2')
	s.Write('3')
	s.Write('4', '5', '6', '7', '8')
	s.Write('9')
	if n := s.Sum(); n != 0xcbf43926 {
		t.Errorf("the Sum of single bytes = %#x", n)
	}
}

func TestRunningOfManyParts(t *testing.T) {
	for _, b := range samples() {
		want := bitwise(b)
		for _, size := range []int{1, 2, 3, 5, 8, 64, 1000, 1 << 20} {
			if n := inParts(b, size); n != want {
				t.Errorf("the Sum of %d bytes in parts of %d = %#x, want %#x", len(b), size, n, want)
			}
		}
	}
}

func TestRunningOfTwoParts(t *testing.T) {
	for _, c := range sums {
		b := []byte(c.text)
		for i := range len(b) + 1 {
			var s crc.Running
			s.Write(b[:i]...)
			s.Write(b[i:]...)
			if n := s.Sum(); n != c.sum {
				t.Errorf("the Sum of %q and %q = %#x, want %#x", b[:i], b[i:], n, c.sum)
			}
		}
	}
}

func TestRunningOfEmptyPartsBetween(t *testing.T) {
	for _, c := range sums {
		var s crc.Running
		s.Write()
		for _, b := range []byte(c.text) {
			s.Write(b)
			s.Write()
			s.Write([]byte{}...)
		}
		if n := s.Sum(); n != c.sum {
			t.Errorf("the Sum of %q with empty parts between = %#x, want %#x", c.text, n, c.sum)
		}
	}
}

// A register that is 0, or what it was at first, does not start the sum again.
func TestRunningGoesOnBehindAnyRegister(t *testing.T) {
	for _, first := range sums {
		for _, second := range sums {
			var s crc.Running
			s.Write([]byte(first.text)...)
			s.Write([]byte(second.text)...)
			if n, want := s.Sum(), bitwise([]byte(first.text+second.text)); n != want {
				t.Errorf("the Sum of %q and %q = %#x, want %#x", first.text, second.text, n, want)
			}
		}
	}
}

func TestRunningSumChangesNothing(t *testing.T) {
	var s crc.Running
	b := []byte("123456789")
	for i, c := range b {
		s.Write(c)
		want := bitwise(b[:i+1])
		if first, second := s.Sum(), s.Sum(); first != want || second != want {
			t.Errorf("the Sum of %q = %#x, and once more %#x, want %#x", b[:i+1], first, second, want)
		}
	}
}

func TestRunningsAreApart(t *testing.T) {
	var first, second crc.Running
	first.Write([]byte("1234")...)
	second.Write([]byte("ab")...)
	third := first
	first.Write([]byte("56789")...)
	crc.Sum([]byte("something else"))
	second.Write('c')
	if n := first.Sum(); n != 0xcbf43926 {
		t.Errorf("the first Sum = %#x", n)
	}
	if n := second.Sum(); n != 0x352441c2 {
		t.Errorf("the second Sum = %#x", n)
	}
	if n, want := third.Sum(), bitwise([]byte("1234")); n != want {
		t.Errorf("the Sum of a copy = %#x, want %#x", n, want)
	}
}

func TestRunningLeavesItsBytesAlone(t *testing.T) {
	var s crc.Running
	store := []byte("123456789")
	s.Write(store[:4]...)
	if string(store) != "123456789" {
		t.Errorf("Write changed its bytes: %q", store)
	}
	clear(store[:4])
	s.Write(store[4:]...)
	if n := s.Sum(); n != 0xcbf43926 {
		t.Errorf("Write kept its bytes: the Sum is %#x", n)
	}
}
