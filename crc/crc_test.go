package crc

import (
	"bytes"
	"hash/crc32"
	"math"
	"testing"
)

// divided is a text's sum, worked out as the document's words say it: by a long division, bit by bit.
func divided(text []byte) uint32 {
	powers := []int{32, 26, 23, 22, 16, 12, 11, 10, 8, 7, 5, 4, 2, 1, 0}
	var message []bool
	for _, v := range text {
		for k := range 8 {
			message = append(message, v>>k&1 == 1)
		}
	}
	message = append(message, make([]bool, 32)...)
	for i := range 32 {
		message[i] = !message[i]
	}
	last := len(message) - 32
	for i := range last {
		if message[i] {
			for _, e := range powers {
				message[i+32-e] = !message[i+32-e]
			}
		}
	}
	var sum uint32
	for k := range 32 {
		if !message[last+k] {
			sum |= 1 << k
		}
	}
	return sum
}

// textOf is a text with that sum: beginning, and four bytes that are found by going back from the sum, bit by bit.
func textOf(sum uint32, beginning []byte) []byte {
	state := ^sum
	for range 32 {
		if state>>31 == 1 {
			state = (state^0xedb88320)<<1 | 1
		} else {
			state <<= 1
		}
	}
	four := state ^ ^divided(beginning)
	return append(bytes.Clone(beginning), byte(four), byte(four>>8), byte(four>>16), byte(four>>24))
}

// mixed tells numbers that look like chance and are always the same.
func mixed(seed uint32) func() uint32 {
	return func() uint32 {
		seed ^= seed << 13
		seed ^= seed >> 17
		seed ^= seed << 5
		return seed
	}
}

func mixedText(next func() uint32, n int) []byte {
	text := make([]byte, n)
	for i := range text {
		text[i] = byte(next() >> 9)
	}
	return text
}

func joined(parts ...[]byte) []byte { return bytes.Join(parts, nil) }

// someSums are sums at the edges, each single bit, and mixed ones.
func someSums() []uint32 {
	sums := []uint32{0, 1, 5, 6, 0x7fffffff, 0x80000000, 0xfffffffe, 0xffffffff, 0xedb88320, 0x12477cdf, 0xcbf43926}
	for k := range 32 {
		sums = append(sums, 1<<k)
	}
	next := mixed(77)
	for range 20 {
		sums = append(sums, next())
	}
	return sums
}

// P1.1

func TestSumOfKnownTexts(t *testing.T) {
	for _, x := range []struct {
		text string
		want uint32
	}{
		{"123456789", 0xcbf43926},
		{"", 0},
		{"a", 0xe8b7be43},
		{"abc", 0x352441c2},
		{"The quick brown fox jumps over the lazy dog", 0x414fa339},
		{"\x00", 0xd202ef8d},
		{"\x00\x00\x00\x00", 0x2144df1c},
		{"\xff\xff\xff\xff", 0xffffffff},
		{"IEND", 0xae426082},
	} {
		if got := Sum([]byte(x.text)); got != x.want {
			t.Errorf("Sum(%q) = %08x, want %08x", x.text, got, x.want)
		}
	}
}

func TestSumIsWhatDivisionLeaves(t *testing.T) {
	for v := range 256 {
		text := []byte{byte(v)}
		if got, want := Sum(text), divided(text); got != want {
			t.Errorf("Sum(%x) = %08x, want %08x", text, got, want)
		}
	}
	next := mixed(1)
	for n := range 80 {
		for _, text := range [][]byte{mixedText(next, n), make([]byte, n), bytes.Repeat([]byte{255}, n)} {
			if got, want := Sum(text), divided(text); got != want {
				t.Errorf("Sum(%x) = %08x, want %08x", text, got, want)
			}
		}
	}
}

func TestSumOfLongTexts(t *testing.T) {
	next := mixed(2)
	for _, n := range []int{4095, 4096, 65536, 1<<20 + 3} {
		text := mixedText(next, n)
		if got, want := Sum(text), crc32.ChecksumIEEE(text); got != want {
			t.Errorf("Sum of %d bytes = %08x, want %08x", n, got, want)
		}
	}
}

func TestMoreOfEverySum(t *testing.T) {
	next := mixed(3)
	for _, sum := range someSums() {
		for _, beginning := range [][]byte{nil, []byte("x"), []byte("a longer beginning")} {
			ahead := textOf(sum, beginning)
			if divided(ahead) != sum {
				t.Fatalf("the test's text %x hasn't the sum %08x", ahead, sum)
			}
			for n := range 9 {
				behind := mixedText(next, n)
				if got, want := More(sum, behind), divided(joined(ahead, behind)); got != want {
					t.Errorf("More(%08x, %x) = %08x, want %08x", sum, behind, got, want)
				}
			}
		}
	}
}

func TestMoreOfNothing(t *testing.T) {
	for _, sum := range someSums() {
		if More(sum, nil) != sum || More(sum, []byte{}) != sum {
			t.Errorf("nothing behind a text changes its sum %08x", sum)
		}
	}
}

// P1.2

func TestJoinOfTwoTexts(t *testing.T) {
	next := mixed(4)
	for m := range 20 {
		for n := range 20 {
			ahead, behind := mixedText(next, m), mixedText(next, n)
			want := divided(joined(ahead, behind))
			if got := Join(divided(ahead), divided(behind), n); got != want {
				t.Errorf("Join of %x and %x = %08x, want %08x", ahead, behind, got, want)
			}
		}
	}
	for _, n := range []int{255, 256, 257, 4096, 65535, 1<<20 + 1} {
		ahead, behind := []byte("ahead"), mixedText(next, n)
		want := crc32.ChecksumIEEE(joined(ahead, behind))
		if got := Join(divided(ahead), crc32.ChecksumIEEE(behind), n); got != want {
			t.Errorf("Join of %d bytes = %08x, want %08x", n, got, want)
		}
	}
}

func TestJoinOfEverySum(t *testing.T) {
	behind := []byte("behind")
	for _, a := range someSums() {
		for _, b := range someSums() {
			want := divided(joined(textOf(a, nil), textOf(b, behind)))
			if got := Join(a, b, len(behind)+4); got != want {
				t.Errorf("Join(%08x, %08x, %d) = %08x, want %08x", a, b, len(behind)+4, got, want)
			}
		}
	}
}

func TestJoinOfNothing(t *testing.T) {
	for _, a := range someSums() {
		if got := Join(a, 0, 0); got != a {
			t.Errorf("Join(%08x, 0, 0) = %08x", a, got)
		}
		for _, b := range someSums() { // no empty text has a sum but 0
			if got := Join(a, b, 0); got != a^b {
				t.Errorf("Join(%08x, %08x, 0) = %08x, want %08x", a, b, got, a^b)
			}
		}
	}
}

func TestJoinHoldsNegativeLengths(t *testing.T) {
	for _, n := range []int{-1, -2, -8, -1 << 31, -1 << 40, -1<<40 - 1, math.MinInt + 1, math.MinInt} {
		for _, a := range someSums() {
			if got := Join(a, 6, n); got != a^6 {
				t.Errorf("Join(%08x, 6, %d) = %08x, want %08x", a, n, got, a^6)
			}
		}
	}
}

func TestJoinHoldsGreatLengths(t *testing.T) {
	for _, n := range []int{1<<40 + 1, 1<<40 + 7, 1 << 41, 3 << 40, 1 << 62, math.MaxInt - 1, math.MaxInt} {
		for _, a := range someSums() {
			if got, want := Join(a, 6, n), Join(a, 6, 1<<40); got != want {
				t.Errorf("Join(%08x, 6, %d) = %08x, want %08x", a, n, got, want)
			}
		}
	}
}

// The divisor's powers of x repeat behind 2^32 - 1 of them and no sooner, so great lengths come down to small ones, whose texts can be told whole.
func TestJoinOfLengthsUpToTheGreatest(t *testing.T) {
	const again = 1<<32 - 1
	next := mixed(5)
	for _, x := range []struct{ great, small int }{
		{1 << 32, 1},
		{again, 0},
		{again + 5, 5},
		{255 * again, 0},
		{1 << 36, 16},
		{1 << 39, 128},
		{1<<40 - 1, 255},
		{1<<40 - 250, 6},
		{1 << 40, 256},
	} {
		behind := mixedText(next, x.small)
		for _, a := range someSums() {
			want := divided(joined(textOf(a, nil), behind))
			if got := Join(a, divided(behind), x.great); got != want {
				t.Errorf("Join(%08x, .., %d) = %08x, want %08x", a, x.great, got, want)
			}
		}
	}
	if Join(5, 6, 1<<40) == Join(5, 6, 1<<40-1) {
		t.Error("the greatest length is held to a smaller one")
	}
}

// P1.2 and P1.3: where no text of n bytes has the sum b, it is as far from Join(a, 0, n) as b is from 0.
func TestJoinOfSumsThatNoTextHas(t *testing.T) {
	next := mixed(6)
	for n := range 4 {
		behind := mixedText(next, n)
		for _, a := range someSums() {
			far := divided(joined(textOf(a, nil), behind)) ^ divided(behind)
			for _, b := range someSums() {
				if got := Join(a, b, n); got != far^b {
					t.Errorf("Join(%08x, %08x, %d) = %08x, want %08x", a, b, n, got, far^b)
				}
			}
		}
	}
}

// P1.3

func TestPartsTellOneSum(t *testing.T) {
	text := mixedText(mixed(7), 24)
	want := divided(text)
	for i := range len(text) + 1 {
		for j := i; j <= len(text); j++ {
			x, y, z := text[:i], text[i:j], text[j:]
			if got := More(More(Sum(x), y), z); got != want {
				t.Errorf("told in parts at %d, %d: %08x, want %08x", i, j, got, want)
			}
			if got := Join(Join(Sum(x), Sum(y), len(y)), Sum(z), len(z)); got != want {
				t.Errorf("joined from the left at %d, %d: %08x, want %08x", i, j, got, want)
			}
			if got := Join(Sum(x), Join(Sum(y), Sum(z), len(z)), len(y)+len(z)); got != want {
				t.Errorf("joined from the right at %d, %d: %08x, want %08x", i, j, got, want)
			}
		}
	}
	sum := uint32(0)
	for i := range text {
		sum = More(sum, text[i:i+1])
	}
	if sum != want {
		t.Errorf("told byte by byte: %08x, want %08x", sum, want)
	}
}

func TestJoinDiffersAsTheSecondSumDoes(t *testing.T) {
	for _, n := range []int{math.MinInt, -1, 0, 1, 2, 3, 4, 5, 1000, 1<<31 - 1, 1 << 31, 1<<40 - 1, 1 << 40, 1<<40 + 1, math.MaxInt} {
		for _, a := range someSums() {
			for _, b := range someSums() {
				if Join(a, b, n)^Join(a, 0, n) != b {
					t.Errorf("Join(%08x, %08x, %d) is not as far from that of 0", a, b, n)
				}
			}
		}
	}
}

// flipped is a text with the bits of pattern turned over, the lowest one at bit from.
func flipped(text []byte, from int, pattern uint32) []byte {
	out := bytes.Clone(text)
	for k := range 32 {
		if at := from + k; pattern>>k&1 == 1 && at < 8*len(out) {
			out[at/8] ^= 1 << (at % 8)
		}
	}
	return out
}

func TestTextsThatDifferWithin32BitsHaveUnlikeSums(t *testing.T) {
	next := mixed(8)
	patterns := someSums()
	for _, n := range []int{1, 2, 4, 5, 12, 40} {
		text := mixedText(next, n)
		sum := Sum(text)
		for from := range 8 * n {
			for _, p := range patterns {
				other := flipped(text, from, p|1)
				if Sum(other) == sum {
					t.Errorf("%x and %x have one sum", text, other)
				}
			}
		}
	}
}

// R1, R4, R5, R6

func TestNilAndEmptyAreTheSame(t *testing.T) {
	if Sum(nil) != 0 || Sum([]byte{}) != 0 {
		t.Errorf("Sum of nothing: %08x, %08x", Sum(nil), Sum([]byte{}))
	}
}

func TestWhatIsHandedInStays(t *testing.T) {
	whole := []byte("ahead of it|the text|behind it")
	before := bytes.Clone(whole)
	text := whole[12:20]
	first, more := Sum(text), More(7, text)
	if !bytes.Equal(whole, before) {
		t.Errorf("the text was changed: %q", whole)
	}
	if Sum(bytes.Clone(text)) != first || More(7, text[:len(text):len(text)]) != more {
		t.Error("the sum hangs on what lies about the text")
	}
	text[0]++
	if Sum(before[12:20]) != first || Sum(text) == first {
		t.Error("the sum hangs on an earlier call")
	}
}
