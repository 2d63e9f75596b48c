package sram

import (
	"bytes"
	"math"
	"testing"

	"keepsake/api"
)

// The calls are the chapter's, those of the latch too.
var (
	_ func(int, []byte) (*Chip, api.Errno) = New
	_ func(*Chip, byte)                    = (*Chip).Latch
	_ func(*Chip) bool                     = (*Chip).Locked
	_ func(*Chip, int) byte                = (*Chip).Read
	_ func(*Chip, int, byte) bool          = (*Chip).Write
	_ func(*Chip) []byte                   = (*Chip).Bytes
	_ func(*Chip) *Chip                    = (*Chip).Copy
)

func TestTheExampleOfTheChapter(t *testing.T) {
	c := must(t, make([]byte, 64))
	if c.Write(3, 7) {
		t.Error("Write of a new chip is true")
	}
	wantChip(t, c, true, make([]byte, 64))
	c.Latch(0xa5)
	if !c.Write(67, 7) {
		t.Error("Write isn't true behind Latch(a5)")
	}
	wantChip(t, c, false, with(make([]byte, 64), 3, 7))
}

func TestOpenInNumbers(t *testing.T) {
	if Open != 165 {
		t.Error(Open)
	}
}

// P12.1: New

func TestNewOfEveryNumberOfUnits(t *testing.T) {
	for units := 1; units <= 128; units++ {
		data := filled(units)
		c, e := New(units, data)
		if e != api.OK || c == nil {
			t.Fatalf("New of %d units is %v, %v", units, c, e)
		}
		wantChip(t, c, true, data)
		for _, n := range []int{len(data) - 1, len(data) + 1, 0, 1, units, len(data) - 64, len(data) + 64, len(data) * 2, len(data) + 1<<16} {
			wantErrArg(t, units, make([]byte, n))
		}
		wantErrArg(t, units, nil)
	}
}

func TestNewOfNumbersThatCannotBe(t *testing.T) {
	for _, units := range []int{0, -1, -2, -64, -128, 129, 130, 256, 257, 1<<16 + 1, 1<<32 + 1, 1 << 57, 1 << 58, 1<<58 + 1, 1 << 62, math.MaxInt, math.MinInt, math.MinInt + 1} {
		wantErrArg(t, units, nil)
		wantErrArg(t, units, []byte{})
		for _, n := range []int{1, 63, 64, 65, 128, 128 * 64, 129 * 64, 130 * 64, 256 * 64, 257 * 64} {
			wantErrArg(t, units, make([]byte, n))
		}
	}
}

func wantErrArg(t *testing.T, units int, data []byte) {
	t.Helper()
	if c, e := New(units, data); c != nil || e != api.ErrArg {
		t.Errorf("New of %d units and %d bytes is %v, %v", units, len(data), c, e)
	}
}

// P12.1: Latch, Locked

func TestLatchOfEachByte(t *testing.T) {
	old := filled(1)
	for _, ahead := range []byte{0xa4, 0xa5} {
		for v := range 256 {
			c := must(t, old)
			c.Latch(ahead)
			c.Latch(byte(v))
			opens := v == 0xa5
			wantChip(t, c, !opens, old)
			if c.Write(9, ^old[9]) != opens {
				t.Errorf("behind Latch(%02x), Latch(%02x): Write isn't %v", ahead, v, opens)
			}
		}
	}
}

// A new chip's latch, too, takes each byte.
func TestLatchOfEachByteAtFirst(t *testing.T) {
	for v := range 256 {
		c := must(t, filled(1))
		c.Latch(byte(v))
		wantChip(t, c, v != 0xa5, filled(1))
	}
}

// The latest byte counts alone, however many came ahead.
func TestLatchAgainAndAgain(t *testing.T) {
	b := newBench(t, filled(1))
	for i, v := range []byte{0xa5, 0xa5, 0, 0, 0xa5, 0x5a, 0xa5, 0xff, 0x25, 0xa4, 0xa7, 0xa5, 0xa5, 0xb5} {
		b.do(latches(v))
		b.wantLocked(v != 0xa5)
		b.do(writes(i, 0x11), writes(i, 0x22))
	}
	b.compare()
}

// Nothing but Latch changes whether it is locked: no write, not even of what opens it.
func TestOnlyLatchLocksAndOpens(t *testing.T) {
	for _, v := range []byte{0xa5, 0} {
		c := must(t, filled(2))
		c.Latch(v)
		for _, a := range addresses(128) {
			for _, w := range []byte{0xa5, 0, 0xff} {
				c.Write(a, w)
				c.Read(a)
				c.Bytes()
				c.Copy().Latch(^v)
				if c.Locked() != (v != 0xa5) {
					t.Fatalf("behind Latch(%02x), and Write(%d, %02x): Locked is %v", v, a, w, c.Locked())
				}
			}
		}
	}
}

// P12.2: Write

func TestWriteWhileItIsLocked(t *testing.T) {
	for _, units := range []int{1, 3, 128} {
		old := filled(units)
		for _, l := range [][]byte{nil, {0}, {0xa5, 0xa4}} {
			c := must(t, old)
			for _, v := range l {
				c.Latch(v)
			}
			for _, a := range append(addresses(len(old)), counted(len(old))...) {
				for _, v := range []byte{0, 0xa5, 0xff} {
					if c.Write(a, v) {
						t.Fatalf("%d units: Write(%d, %02x) is true, and it is locked", units, a, v)
					}
				}
			}
			wantChip(t, c, true, old)
		}
	}
}

// Each place within some chips, of which one hasn't a power of two of bytes.
func TestWriteOfEachPlace(t *testing.T) {
	for _, units := range []int{1, 2, 3, 5} {
		old := filled(units)
		for a := range old {
			c := open(t, old)
			if !c.Write(a, ^old[a]) {
				t.Fatalf("%d units: Write(%d) isn't true", units, a)
			}
			wantChip(t, c, false, with(old, a, ^old[a]))
		}
	}
}

func TestWriteOfEachByte(t *testing.T) {
	old := filled(1)
	c := open(t, old)
	for v := range 256 {
		for _, again := range []byte{byte(v), byte(v)} { // what is there already, too
			if !c.Write(9, again) {
				t.Fatalf("Write of %02x isn't true", v)
			}
			wantChip(t, c, false, with(old, 9, byte(v)))
		}
	}
}

// Of every number of units the last place, and those beyond the bytes, in numbers.
func TestWriteBeyondTheBytes(t *testing.T) {
	for units := 1; units <= 128; units++ {
		n := units * 64
		old := filled(units)
		for _, x := range []struct{ a, place int }{{n - 1, n - 1}, {n, 0}, {n + 3, 3}, {2*n - 1, n - 1}, {2 * n, 0}, {7*n + 65, 65 % n}, {(1<<40)*n + 9, 9}} {
			c := open(t, old)
			if !c.Write(x.a, ^old[x.place]) || c.Read(x.a) != ^old[x.place] {
				t.Fatalf("%d units: Write(%d) isn't true, or Read(%d) hasn't it", units, x.a, x.a)
			}
			wantChip(t, c, false, with(old, x.place, ^old[x.place]))
		}
	}
}

// The last address that there is, of chips with a power of two of bytes and without: MaxInt, modulo 192, is 127.
func TestTheLastAddressThereIs(t *testing.T) {
	for _, x := range []struct{ units, place int }{{1, 63}, {2, 127}, {3, 127}, {128, 8191}} {
		old := filled(x.units)
		c := open(t, old)
		if !c.Write(math.MaxInt, ^old[x.place]) || c.Read(math.MaxInt) != ^old[x.place] {
			t.Errorf("%d units: MaxInt isn't the place %d", x.units, x.place)
		}
		wantChip(t, c, false, with(old, x.place, ^old[x.place]))
	}
}

// Each address below 0 is 0, those too that would be another place modulo the bytes.
func TestAddressesBelow0(t *testing.T) {
	for _, units := range []int{1, 3, 128} {
		old := filled(units)
		n := len(old)
		for _, a := range []int{-1, -2, -3, -63, -64, -65, 1 - n, -n, -n - 1, -5*n - 3, -1 << 40, math.MinInt, math.MinInt + 1, math.MinInt + 63} {
			c := open(t, old)
			if c.Read(a) != old[0] {
				t.Errorf("%d units: Read(%d) is %02x, want %02x", units, a, c.Read(a), old[0])
			}
			if !c.Write(a, ^old[0]) || c.Read(a) != ^old[0] {
				t.Errorf("%d units: Write(%d) isn't true, or Read(%d) hasn't it", units, a, a)
			}
			wantChip(t, c, false, with(old, 0, ^old[0]))
		}
	}
}

// counted is the numbers from 0 on.
func counted(n int) []int {
	l := make([]int, n)
	for i := range l {
		l[i] = i
	}
	return l
}

// P12.2: Read, Bytes

// A latch keeps nobody from reading.
func TestReadLockedOrNot(t *testing.T) {
	for _, units := range []int{1, 3, 128} {
		old := filled(units)
		n := len(old)
		for _, v := range []byte{0, 0xa5} {
			c := must(t, old)
			c.Latch(v)
			for a := range 3 * n {
				if c.Read(a) != old[a%n] || c.Read(-a) != old[0] {
					t.Fatalf("%d units: Read(%d) is %02x, Read(%d) %02x", units, a, c.Read(a), -a, c.Read(-a))
				}
			}
			wantChip(t, c, v != 0xa5, old)
		}
	}
}

func TestBytesBehindEachWrite(t *testing.T) {
	want := filled(3)
	c := open(t, want)
	for a := range want {
		want[a] = byte(a*11 + 1)
		if !c.Write(a, want[a]) || !bytes.Equal(c.Bytes(), want) {
			t.Fatalf("behind Write(%d): Bytes aren't as they should be", a)
		}
	}
	c.Latch(0)
	wantChip(t, c, true, want)
}

// P12.2: Copy

// Of a chip that is locked, and of one that isn't: it is as the chip is, and each goes on by itself.
func TestCopyGoesOnByItself(t *testing.T) {
	for _, units := range []int{1, 3, 128} {
		old := with(filled(units), 5, 0x77)
		for _, v := range []byte{0, 0xa5} {
			locked := v != 0xa5
			c := open(t, filled(units))
			c.Write(5, 0x77)
			c.Latch(v)
			d := c.Copy()
			wantChip(t, d, locked, old)

			d.Latch(^v) // locked, both
			wantChip(t, c, locked, old)
			wantChip(t, d, true, old)
			if c.Write(7, 1) == locked || d.Write(9, 2) {
				t.Error("what the one's latch was told is the other's too")
			}

			d.Latch(0xa5)
			wantChip(t, d, false, old)
			if c.Locked() != locked || !d.Write(9, 2) {
				t.Error("a copy's latch opens the chip's, or its own doesn't")
			}
			wantChip(t, d, false, with(old, 9, 2))
			if !locked {
				wantChip(t, c, false, with(old, 7, 1))
			} else {
				wantChip(t, c, true, old)
			}
		}
	}
}

// The chip's latch and bytes, changed behind the copy, are none of the copy's.
func TestTheChipGoesOnByItself(t *testing.T) {
	for _, v := range []byte{0, 0xa5} {
		c := open(t, filled(2))
		c.Latch(v)
		d := c.Copy()
		c.Latch(0xa5)
		for a := range 128 {
			c.Write(a, ^filled(2)[a])
		}
		wantChip(t, d, v != 0xa5, filled(2))
		c.Latch(0)
		wantChip(t, d, v != 0xa5, filled(2))
		if d.Write(0, 1) != (v == 0xa5) {
			t.Error("a copy writes as the chip would, and not as itself")
		}
	}
}

// A copy of a copy, and so on, each with one more byte, and every second one locked.
func TestCopyOfACopy(t *testing.T) {
	l := []*bench{newBench(t, filled(1))}
	for i := range 64 {
		b := l[i].copy()
		b.compare()
		b.do(latches(0xa5), writes(i, byte(i)+0x80))
		if i%2 == 0 {
			b.do(latches(byte(i)))
		}
		l = append(l, b)
	}
	for i, b := range l {
		b.compare()
		want := filled(1)
		for a := range i {
			want[a] = byte(a) + 0x80
		}
		wantChip(t, b.c, i == 0 || i%2 == 1, want)
	}
}
