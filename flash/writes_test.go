package flash

import (
	"bytes"
	"slices"
	"testing"

	"keepsake/api"
)

// pasts are writes that bring a chip to each of what it may go on with.
func pasts() [][]put {
	program, erase := programs(7, 0x0f), erasesSector(7)
	l := [][]put{program, erase}
	for i := range program {
		l = append(l, program[:i])
	}
	for i := 3; i < len(erase); i++ {
		l = append(l, erase[:i])
	}
	return l
}

// rests are what would be whole behind each of the pasts: what comes of each tells what the chip was going on with.
func rests() [][]put {
	program, erase := programs(9, 0xf3), erasesAll()
	return [][]put{program, program[1:], program[2:], program[3:], erase[3:], erase[4:], erase[5:], identifies()[2:]}
}

// everyWrite is each byte to some addresses, and some bytes to addresses of each lowest byte.
func everyWrite() []put {
	var l []put
	for x := range 256 {
		for _, at := range []int{0x55, 0x1aa, 7} {
			l = append(l, put{at, byte(x)})
		}
		for _, v := range []byte{0xaa, 0x55, 0xa0, 0x80, 0x90, 0x30, 0x10, 0xf0, 0, 0xff} {
			l = append(l, put{x, v}, put{x - 256, v})
		}
	}
	return l
}

func TestEveryWriteBehindEachPast(t *testing.T) {
	old := filled(1)
	for _, past := range pasts() {
		for _, p := range everyWrite() {
			for _, rest := range rests() {
				b := newBench(t, old)
				b.writes(past...)
				b.writes(p)
				b.writes(rest...)
				b.read(0)
				b.read(0)
			}
		}
	}
}

// What it was asked for ahead doesn't matter, but whether it identifies itself.
func TestEveryWriteWhileItIdentifiesItself(t *testing.T) {
	old := filled(1)
	for _, past := range pasts() {
		for _, p := range everyWrite() {
			b := newBench(t, old)
			b.writes(identifies()...)
			b.writes(past...)
			b.writes(p)
			b.read(0)
			b.read(1)
			b.writes(programs(9, 0xf3)...)
			b.read(0)
		}
	}
}

// short are the writes of which all sequences are, and one that means nothing.
func short() []put {
	return []put{{0x55, 0xaa}, {0xaa, 0x55}, {0x55, 0xa0}, {0x55, 0x80}, {0x55, 0x90}, {0x55, 0x10}, {7, 0x30}, {0, 0xf0}, {9, 0}}
}

// endsWhole tells whether a sequence that writes something, as a whole, ends writes.
func endsWhole(writes []put) bool {
	for _, s := range sequences {
		from := len(writes) - len(s.writes)
		if s.does == "identify" || from < 0 {
			continue
		}
		if _, whole := fits(writes[from:], s.writes); whole {
			return true
		}
	}
	return false
}

// holdsWhole tells whether one stands anywhere in writes.
func holdsWhole(writes []put) bool {
	for i := range writes {
		if endsWhole(writes[:i+1]) {
			return true
		}
	}
	return false
}

// All lines of six writes; P11.4 of those without a whole sequence.
func TestAllShortLines(t *testing.T) {
	old := filled(1)
	line := make([]put, 6)
	var from func(i int)
	from = func(i int) {
		if i < len(line) {
			for _, p := range short() {
				line[i] = p
				from(i + 1)
			}
			return
		}
		b := newBench(t, old)
		b.writes(line...)
		if !holdsWhole(line) && (b.c.Left() != 0 || !bytes.Equal(b.c.Bytes(), old)) {
			t.Fatalf("%v are no whole sequence, and Left is %d, or something was written", line, b.c.Left())
		}
		b.read(0)
		b.read(1)
	}
	from(0)
}

// mischief is one of the things that anybody may do.
func mischief(b *bench, next func(int) int) {
	ways := wholes()
	some := some()
	w := ways[next(len(ways))].writes
	at := next(5*len(b.m.bytes)) - len(b.m.bytes)
	switch next(12) {
	case 0, 1:
		b.writes(w...)
	case 2:
		b.writes(programs(at, byte(next(256)))...)
	case 3:
		b.writes(erasesSector(at)...)
	case 4:
		b.writes(w[:next(len(w))]...)
	case 5:
		b.writes(changed(w, next(len(w)), some[next(len(some))])...)
	case 6:
		b.writes(some[next(len(some))], some[next(len(some))])
	case 7:
		b.write(at, byte(next(256)))
	case 8:
		b.read(at)
	case 9:
		b.ticks(next(12))
	case 10:
		b.ticks(b.m.left)
	default:
		b.compare()
	}
}

func TestMischief(t *testing.T) {
	for sectors := 1; sectors <= 64; sectors += 1 + sectors/4 {
		next := chance(uint64(sectors))
		b := newBench(t, someBytes(next, sectors*256))
		for range 4000 {
			mischief(b, next)
			b.done = b.done[max(0, len(b.done)-40):] // the latest ones tell enough
		}
		b.compare()
	}
}

// P11.4: This follows. It is seen in what the chip answers alone.

// Of any writes: it gets busy with a whole sequence alone, bytes change with the last tick alone, and only those that it was busy with; a Program turns no bit to 1.
func TestNothingIsWrittenWithoutAWholeSequence(t *testing.T) {
	next := chance(7)
	for range 20 {
		c := must(t, someBytes(next, 512))
		var written []put // while it wasn't busy
		ended := [3]int{}
		for range 6000 {
			was, busy, old := c.Waits(), c.Left(), c.Bytes()
			if next(4) > 0 {
				c.Tick()
			}
			wantChanged(t, c, was, busy, old)
			if busy > 0 && c.Left() == 0 {
				ended[was.Kind]++
			}
			old = c.Bytes()
			for _, p := range someWrites(next) {
				written = append(written, writeTo(c, p)...)
			}
			if busy == 0 && c.Left() > 0 && !endsWhole(written) {
				t.Fatalf("it is busy behind %v", written)
			}
			if !bytes.Equal(c.Bytes(), old) {
				t.Fatalf("a write alone changes bytes, behind %v", written)
			}
		}
		if ended[api.Programs] == 0 || ended[api.Erases] == 0 {
			t.Error("nothing was programmed, or nothing erased")
		}
	}
}

// someWrites is a whole sequence, a write that one may have, or none.
func someWrites(next func(int) int) []put {
	switch next(3) {
	case 0:
		return wholes()[next(len(wholes()))].writes
	case 1:
		return short()[next(len(short())):][:1]
	}
	return nil
}

// writeTo is the write, if the chip wasn't busy ahead of it.
func writeTo(c *Chip, p put) []put {
	busy := c.Left() > 0
	c.Write(p.at, p.value)
	if busy {
		return nil
	}
	return []put{p}
}

// wantChanged asks that just what a chip was busy with is changed, if it isn't busy any more, and as it must be.
func wantChanged(t *testing.T, c *Chip, was api.Wait, busy int, old []byte) {
	t.Helper()
	now := c.Bytes()
	ended := busy > 0 && c.Left() == 0
	for i, v := range now {
		switch {
		case !ended || i < was.From || i >= was.From+was.Many:
			if v != old[i] {
				t.Fatalf("the place %x has %02x, and had %02x", i, v, old[i])
			}
		case was.Kind == api.Programs:
			if v&^old[i] != 0 || v != lost(old[i], was.Value) {
				t.Fatalf("the place %x had %02x, was programmed with %02x, and has %02x", i, old[i], was.Value, v)
			}
		case v != 0xff:
			t.Fatalf("the place %x was erased, and has %02x", i, v)
		}
	}
}

// Each sequence needs both writes of a KEY: without one of them nothing is ever written, whatever else is.
func TestNothingIsWrittenWithoutAKey(t *testing.T) {
	for _, missing := range []put{{0x55, 0xaa}, {0xaa, 0x55}} {
		next := chance(uint64(missing.value))
		old := someBytes(next, 512)
		c := must(t, old)
		for range 20000 {
			p := some()[next(len(some()))]
			if next(2) == 0 {
				p = short()[next(len(short()))]
			}
			if p.value == missing.value {
				continue
			}
			c.Write(p.at, p.value)
			if c.Left() != 0 {
				t.Fatal("it is busy")
			}
			c.Tick()
		}
		if !bytes.Equal(c.Bytes(), old) || c.Read(0) != old[0] {
			t.Error("something was written, or it identifies itself")
		}
	}
}

// A sequence with any of its writes left out, or several, never writes what it is for.
func TestNoPartOfASequenceWrites(t *testing.T) {
	old := filled(2)
	for _, w := range wholes() {
		for mask := range 1<<len(w.writes) - 1 {
			c := must(t, old)
			for i, p := range w.writes {
				if mask>>i&1 == 1 {
					c.Write(p.at, p.value)
				}
			}
			for range 2 * ChipBusy {
				c.Tick()
			}
			if !bytes.Equal(c.Bytes(), old) {
				t.Errorf("%s: the writes %b of it write something", w.does, mask)
			}
		}
	}
}

// R5

func TestMemoryOfItsOwn(t *testing.T) {
	for _, w := range wholes() {
		old := filled(2)
		data := bytes.Clone(old)
		b := &bench{t: t, c: must(t, data), m: newModel(old)}
		clear(data)
		b.compare()
		for i, p := range w.writes {
			b.writes(p)
			spoilAnswers(b)
			if !bytes.Equal(data, make([]byte, 512)) {
				t.Fatalf("%s: write %d changes what was handed in", w.does, i)
			}
		}
		for range w.busy {
			spoilAnswers(b)
			b.ticks(1)
		}
		spoilAnswers(b)
	}
}

// spoilAnswers changes all that is answered, and asks that nothing comes of it; nor that a pick is changed, or kept.
func spoilAnswers(b *bench) {
	b.t.Helper()
	clear(b.c.Bytes())
	for _, n := range []int{0, 1, 3, 700} {
		pick := counted(5, n)
		one, other := b.c.Cut(pick), b.c.Cut(pick)
		if !bytes.Equal(pick, counted(5, n)) {
			b.t.Fatal("Cut changes what is picked")
		}
		clear(one)
		clear(pick)
		if !bytes.Equal(other, b.m.cut(counted(5, n))) {
			b.t.Fatal("two answers of Cut share memory, or one is what was picked")
		}
		if cap(other) > len(other) {
			_ = append(other, 1, 2, 3)
		}
	}
	b.wantState()
	if !bytes.Equal(b.c.Bytes(), b.m.bytes) {
		b.t.Fatal("what is answered is the chip's own memory")
	}
}

func TestDataIsNotChanged(t *testing.T) {
	data := filled(2)
	c := must(t, data)
	for _, w := range wholes() {
		for _, p := range w.writes {
			c.Write(p.at, p.value)
		}
		for range w.busy {
			c.Tick()
		}
	}
	if !bytes.Equal(data, filled(2)) {
		t.Error("what was handed in is changed")
	}
}

// R6: chips beside each other, of the same bytes, don't tell on each other.
func TestChipsBesideEachOther(t *testing.T) {
	data := filled(2)
	var l []*bench
	for range wholes() {
		l = append(l, &bench{t: t, c: must(t, data), m: newModel(data)})
	}
	for i := range 6 {
		for k, w := range wholes() {
			if i < len(w.writes) {
				l[k].writes(w.writes[i])
			}
			l[k].read(k)
		}
	}
	for range ChipBusy {
		for k, b := range slices.Backward(l) {
			b.read(k)
			b.ticks(1)
		}
	}
	for _, b := range l {
		b.compare()
	}
}

// Chips of the same past answer the same.
func TestTheSamePastTheSameAnswers(t *testing.T) {
	one, other := newBench(t, filled(3)), newBench(t, filled(3))
	next, again := chance(3), chance(3)
	for range 3000 {
		mischief(one, next)
		mischief(other, again)
		if one.c.Left() != other.c.Left() || one.c.Waits() != other.c.Waits() || !bytes.Equal(one.c.Bytes(), other.c.Bytes()) {
			t.Fatal("two chips of one past aren't alike")
		}
	}
}
