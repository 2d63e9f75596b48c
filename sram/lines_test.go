package sram

import (
	"bytes"
	"testing"

	"keepsake/api"
)

// short are acts that mean something beside each other: the same place by several addresses, and places beside it.
func short() []act {
	return []act{latches(0xa5), latches(0xa4), latches(0), writes(3, 0x11), writes(67, 0x22), writes(195, 0x33), writes(0, 0xa5), writes(-3, 0x44), writes(63, 0x55)}
}

// All lines of five acts, of one unit and of three.
func TestAllShortLines(t *testing.T) {
	for _, units := range []int{1, 3} {
		old := filled(units)
		line := make([]act, 5)
		var from func(i int)
		from = func(i int) {
			if i < len(line) {
				for _, a := range short() {
					line[i] = a
					from(i + 1)
				}
				return
			}
			b := newBench(t, old)
			b.do(line...)
			b.wantBytes(b.m.bytes())
			b.wantRead(3, b.c.Bytes()[3])
		}
		from(0)
	}
}

// Each byte for the latch, behind each one, and what a write does then.
func TestEveryTwoBytesForTheLatch(t *testing.T) {
	old := filled(1)
	for v := range 256 {
		for w := range 256 {
			b := newBench(t, old)
			b.do(latches(byte(v)), writes(1, 1), latches(byte(w)), writes(2, 2))
			b.wantBytes(b.m.bytes())
		}
	}
}

// someAct is one of the things that anybody may do.
func someAct(next func(int) int, n int) act {
	switch next(8) {
	case 0:
		return latches(byte(next(256)))
	case 1:
		return latches(0xa5)
	case 2:
		return latches(0xa5 ^ 1<<next(8))
	case 3:
		l := addresses(n)
		return writes(l[next(len(l))], byte(next(256)))
	}
	return writes(next(5*n)-n, byte(next(256)))
}

// Chips that were copied from each other: what one does is none of the others'.
func TestMischief(t *testing.T) {
	for _, units := range []int{1, 2, 3, 5, 64, 100, 127, 128} {
		next := chance(uint64(units))
		l := []*bench{newBench(t, someBytes(next, units*64))}
		for range 300 {
			k := next(len(l))
			for range next(6) {
				l[k].do(someAct(next, units*64))
			}
			switch next(10) {
			case 0:
				l = append(l, l[k].copy())[max(0, len(l)-7):]
			case 1:
				for _, b := range l {
					b.compare()
				}
			}
		}
		for _, b := range l {
			b.compare()
		}
	}
}

// P12.3: This follows. It is seen in what the chip answers alone.

func TestTheLatestOfEachPlaceThatWasWrittenWhileItWasNotLocked(t *testing.T) {
	for _, units := range []int{1, 2, 3, 7, 128} {
		next := chance(uint64(units) + 99)
		first := someBytes(next, units*64)
		c := must(t, first)
		var written []act // while it wasn't locked
		for i := range 4000 {
			a := someAct(next, len(first))
			locked := c.Locked()
			told := doTo(c, a)
			if told != (!a.latch && !locked) {
				t.Fatalf("%v is %v, and it was locked: %v", a, told, locked)
			}
			if told {
				written = append(written, a)
			}
			if i%400 == 399 {
				wantLatest(t, c, first, written)
			}
		}
		if len(written) < 100 {
			t.Error("hardly anything was written")
		}
	}
}

// wantLatest asks of each place for the latest byte of it, looked for from the last write on, and else for the first one.
func wantLatest(t *testing.T, c *Chip, first []byte, written []act) {
	t.Helper()
	now := c.Bytes()
	for place, v := range now {
		want := first[place]
		for i := len(written) - 1; i >= 0; i-- {
			if at := max(written[i].at, 0); (at-place)%len(first) == 0 {
				want = written[i].value
				break
			}
		}
		if v != want || c.Read(place) != want {
			t.Fatalf("the place %d of %d has %02x, Read tells %02x, want %02x", place, len(first), v, c.Read(place), want)
		}
	}
}

// With no byte that opens it nothing is ever written.
func TestNothingIsWrittenThatWasNotOpened(t *testing.T) {
	next := chance(5)
	old := someBytes(next, 192)
	c := must(t, old)
	for range 20000 {
		a := someAct(next, 192)
		if a.latch && a.value == 0xa5 {
			continue
		}
		if doTo(c, a) || !c.Locked() {
			t.Fatalf("%v opens it, or writes", a)
		}
	}
	wantChip(t, c, true, old)
}

// R5

func TestMemoryOfItsOwn(t *testing.T) {
	data := filled(2)
	c := open(t, data)
	clear(data)
	wantChip(t, c, false, filled(2))

	want := with(filled(2), 9, 0x66)
	c.Write(9, 0x66)
	if !bytes.Equal(data, make([]byte, 128)) {
		t.Error("a write changes what was handed in")
	}
	one, other := c.Bytes(), c.Bytes()
	clear(one)
	if !bytes.Equal(other, want) {
		t.Error("two answers share memory")
	}
	_ = append(one[:3], 1, 2, 3)
	wantChip(t, c, false, want)
	d := c.Copy()
	clear(d.Bytes())
	wantChip(t, d, false, want)
	wantChip(t, c, false, want)

	c.Write(10, 0x67)
	if !bytes.Equal(other, want) {
		t.Error("a write changes what was answered")
	}
}

func TestDataIsNotChanged(t *testing.T) {
	data := filled(3)
	long := data[:128] // more lies behind what is handed in
	for range 2 {
		c := open(t, long)
		for a := range 128 {
			c.Write(a, ^data[a])
		}
		if _, e := New(1, long); e != api.ErrArg {
			t.Error(e)
		}
	}
	if !bytes.Equal(data, filled(3)) {
		t.Error("what was handed in is changed")
	}
}

// R6: chips beside each other, of the same bytes, don't tell on each other.
func TestChipsBesideEachOther(t *testing.T) {
	data := filled(1)
	var l []*bench
	for range 8 {
		l = append(l, &bench{t: t, c: must(t, data), m: newModel(data)})
	}
	next := chance(8)
	for range 400 {
		l[next(8)].do(someAct(next, 64))
		l[next(8)].compare()
	}
	for _, b := range l {
		b.compare()
	}
}

// Chips of the same past answer the same.
func TestTheSamePastTheSameAnswers(t *testing.T) {
	one, other := must(t, filled(3)), must(t, filled(3))
	next := chance(3)
	for range 3000 {
		a := someAct(next, 192)
		if doTo(one, a) != doTo(other, a) || one.Locked() != other.Locked() || !bytes.Equal(one.Bytes(), other.Bytes()) {
			t.Fatal("two chips of one past aren't alike")
		}
	}
}
