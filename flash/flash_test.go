package flash

import (
	"bytes"
	"math"
	"slices"
	"testing"

	"keepsake/api"
)

// P11.1: New

func TestNewOfEveryNumberOfSectors(t *testing.T) {
	for sectors := 1; sectors <= 64; sectors++ {
		data := filled(sectors)
		c, e := New(sectors, data)
		if e != api.OK || c == nil {
			t.Fatalf("New of %d sectors is %v, %v", sectors, c, e)
		}
		if c.Left() != 0 || c.Waits() != (api.Wait{}) || !bytes.Equal(c.Bytes(), data) || !bytes.Equal(c.Cut([]byte{1, 2, 3}), data) {
			t.Errorf("New of %d sectors: Left is %d, Waits %v, or the bytes aren't its own", sectors, c.Left(), c.Waits())
		}
		for a, v := range data {
			if c.Read(a) != v {
				t.Fatalf("New of %d sectors: Read(%x) is %02x, want %02x", sectors, a, c.Read(a), v)
			}
		}
		for _, n := range []int{len(data) - 1, len(data) + 1, 0, 1, sectors, len(data) - 256, len(data) + 256, len(data) * 2, len(data) + 1<<16} {
			wantErrArg(t, sectors, make([]byte, n))
		}
		wantErrArg(t, sectors, nil)
	}
}

func TestNewOfNumbersThatCannotBe(t *testing.T) {
	for _, sectors := range []int{0, -1, -2, -64, 65, 66, 128, 256, 257, 1<<16 + 1, 1<<32 + 1, 1 << 55, 1<<56 + 1, 1 << 62, math.MaxInt, math.MinInt, math.MinInt + 1} {
		wantErrArg(t, sectors, nil)
		wantErrArg(t, sectors, []byte{})
		for _, n := range []int{1, 255, 256, 257, 512, 64 * 256, 65 * 256, 66 * 256, 128 * 256} {
			wantErrArg(t, sectors, make([]byte, n))
		}
	}
}

func wantErrArg(t *testing.T, sectors int, data []byte) {
	t.Helper()
	if c, e := New(sectors, data); c != nil || e != api.ErrArg {
		t.Errorf("New of %d sectors and %d bytes is %v, %v", sectors, len(data), c, e)
	}
}

func TestConstantsInNumbers(t *testing.T) {
	if ProgramBusy != 10 || SectorBusy != 100 || ChipBusy != 200 || Maker != 191 {
		t.Error(ProgramBusy, SectorBusy, ChipBusy, Maker)
	}
}

// P11.1: whole sequences

func TestTheExampleOfTheChapter(t *testing.T) {
	b := newBench(t, ones(256))
	b.writes(put{0x55, 0xaa}, put{0xaa, 0x55}, put{0x55, 0xa0}, put{7, 0x0f})
	b.wantLeft(10)
	b.ticks(10)
	b.wantBytes(with(ones(256), 7, 0x0f))
	b.wantRead(7, 0x0f)
}

// How long each takes, tick by tick; a tick ahead of the last one nothing is changed.
func TestHowLongEachTakes(t *testing.T) {
	old := filled(3)
	for _, x := range []struct {
		writes []put
		busy   int
		waits  api.Wait
		want   []byte
	}{
		{programs(0x107, 0x0f), 10, api.Wait{Kind: 1, From: 0x107, Many: 1, Value: 0x0f}, with(old, 0x107, old[0x107]&0x0f)},
		{programs(0x2ff, 0), 10, api.Wait{Kind: 1, From: 0x2ff, Many: 1}, with(old, 0x2ff, 0)},
		{erasesSector(0x107), 100, api.Wait{Kind: 2, From: 256, Many: 256}, with(old, 256, ones(256)...)},
		{erasesAll(), 200, api.Wait{Kind: 2, From: 0, Many: 768}, ones(768)},
	} {
		b := newBench(t, old)
		b.writes(x.writes...)
		for left := x.busy; left > 0; left-- {
			b.wantLeft(left)
			b.wantWaits(x.waits)
			b.wantBytes(old)
			b.ticks(1)
		}
		b.wantLeft(0)
		b.wantWaits(api.Wait{})
		b.wantBytes(x.want)
		b.compare()
		b.ticks(3 * ChipBusy)
		b.wantLeft(0)
		b.wantBytes(x.want)
	}
}

// Each byte is programmed over each byte.
func TestAProgramOverEachByte(t *testing.T) {
	for v := range 256 {
		c := must(t, counted(0, 256))
		for at := range 256 {
			for _, p := range programs(at, byte(v)) {
				c.Write(p.at, p.value)
			}
			for range 10 {
				c.Tick()
			}
		}
		for at, got := range c.Bytes() {
			if got != lost(byte(at), byte(v)) || c.Read(at) != got {
				t.Fatalf("%02x, programmed with %02x, is %02x", at, v, got)
			}
		}
	}
}

func TestAProgramOverBitsInNumbers(t *testing.T) {
	for _, x := range []struct{ was, v, want byte }{
		{0xff, 0x0f, 0x0f}, {0xf7, 0x0f, 0x07}, {0x00, 0xff, 0x00}, {0xf0, 0x0f, 0x00}, {0x3c, 0xff, 0x3c}, {0xff, 0xff, 0xff}, {0xff, 0xf0, 0xf0}, {0x5a, 0xf0, 0x50},
	} {
		b := newBench(t, with(ones(256), 9, x.was))
		b.writes(programs(9, x.v)...)
		b.wait()
		b.wantBytes(with(ones(256), 9, x.want))
		b.writes(programs(9, 0xff)...)
		b.wait()
		b.wantBytes(with(ones(256), 9, x.want))
	}
}

func TestEachPlaceIsProgrammed(t *testing.T) {
	old := ones(3 * 256)
	b := newBench(t, old)
	for at := range old {
		old[at] = byte(at*5 + 3)
		b.writes(programs(at, old[at])...)
		b.ticks(10)
	}
	b.wantBytes(old)
}

func TestEachSectorIsErased(t *testing.T) {
	for _, sectors := range []int{1, 2, 3, 7, 63, 64} {
		old := filled(sectors)
		for sector := range sectors {
			for _, low := range []int{0, 1, 0x55, 0xaa, 0xff} {
				b := newBench(t, old)
				b.writes(erasesSector(sector*256 + low)...)
				b.wantWaits(api.Wait{Kind: api.Erases, From: sector * 256, Many: 256})
				b.ticks(100)
				b.wantBytes(with(old, sector*256, ones(256)...))
			}
		}
		b := newBench(t, old)
		b.writes(erasesAll()...)
		b.wantWaits(api.Wait{Kind: api.Erases, From: 0, Many: sectors * 256})
		b.ticks(200)
		b.wantBytes(ones(sectors * 256))
	}
}

// One behind the other: what was written stays, and a byte that was erased may be programmed again.
func TestOneBehindTheOther(t *testing.T) {
	old := filled(2)
	b := newBench(t, old)
	b.writes(programs(3, 0x0f)...)
	b.wait()
	b.writes(programs(0x103, 0xf0)...)
	b.wait()
	b.wantBytes(with(with(old, 3, old[3]&0x0f), 0x103, old[0x103]&0xf0))
	b.writes(erasesSector(0)...)
	b.wait()
	b.wantBytes(with(with(old, 0, ones(256)...), 0x103, old[0x103]&0xf0))
	b.writes(programs(3, 0xa5)...)
	b.wait()
	b.wantRead(3, 0xa5)
	b.writes(erasesAll()...)
	b.wait()
	b.wantBytes(ones(512))
	b.writes(programs(0x1ff, 0)...)
	b.wait()
	b.wantBytes(with(ones(512), 511, 0))
}

// P11.1: addresses

// A KEY and a COMMAND ask for the lowest byte alone, whatever sector the address is of, and however far it is behind the chip's bytes.
func TestTheLowestByteAloneCounts(t *testing.T) {
	old := filled(3)
	far := []int{0, 0x100, 0x200, 0x300, 0x700, 1 << 16, 1<<40 + 0x200, math.MaxInt - 0xff}
	for _, w := range wholes() {
		for i, p := range w.writes[:len(w.writes)-1] {
			for _, more := range far {
				b := newBench(t, old)
				b.writes(changed(w.writes, i, put{p.at + more, p.value})...)
				b.wantLeft(w.busy)
				b.wait()
			}
		}
	}
	for _, more := range far {
		b := newBench(t, old)
		b.writes(erases(put{0x55 + more, 0x10})...)
		b.wantLeft(200)
		b.writes(keyed(put{0x55 + more, 0x90})...)
		b.wait()
		b.writes(keyed(put{0x55 + more, 0x90})...)
		b.wantName()
	}
}

func TestAddressesBeyondTheBytes(t *testing.T) {
	for _, sectors := range []int{1, 2, 3, 5, 64} {
		old := filled(sectors)
		n := len(old)
		for _, at := range []int{0, 1, 7, 0x55, 255, n - 1} {
			for _, a := range []int{at, at + n, at + 2*n, at + 7*n, at + n<<30, math.MaxInt/n*n - n + at} {
				b := newBench(t, old)
				b.wantRead(a, old[at])
				b.writes(programs(a, 0)...)
				b.wantWaits(api.Wait{Kind: api.Programs, From: at, Many: 1})
				b.wait()
				b.wantBytes(with(old, at, 0))
				b.writes(erasesSector(a)...)
				b.wantWaits(api.Wait{Kind: api.Erases, From: at / 256 * 256, Many: 256})
				b.wait()
				b.wantBytes(with(old, at/256*256, ones(256)...))
			}
		}
	}
}

func TestTheLastAddressesThereAre(t *testing.T) {
	b := newBench(t, filled(3))
	at := math.MaxInt % 768
	b.wantRead(math.MaxInt, filled(3)[at])
	b.writes(programs(math.MaxInt, 0)...)
	b.wantWaits(api.Wait{Kind: api.Programs, From: at, Many: 1})
}

// Below 0 each address is 0: what its lowest byte would be doesn't count.
func TestAddressesBelow0(t *testing.T) {
	old := filled(2)
	below := []int{-1, -2, -255, -256, -257, -512, -171, -86, 0x55 - 512, 0xaa - 512, 0x55 - 1<<32, math.MinInt, math.MinInt + 0x55, math.MinInt + 0xaa}
	for _, a := range below {
		b := newBench(t, old)
		b.wantRead(a, old[0])
		b.writes(programs(a, 0)...)
		b.wantWaits(api.Wait{Kind: api.Programs, From: 0, Many: 1})
		b.wait()
		b.wantBytes(with(old, 0, 0))
		b.writes(erasesSector(a)...)
		b.wantWaits(api.Wait{Kind: api.Erases, From: 0, Many: 256})
		b.wait()
		b.wantBytes(with(old, 0, ones(256)...))
		b.writes(identifies()...)
		b.wantRead(a, 0xbf)
	}
	for _, w := range wholes() {
		for i, p := range w.writes[:len(w.writes)-1] {
			for _, a := range append(below, p.at-256, p.at-512, p.at-1<<40) {
				b := newBench(t, old)
				b.writes(changed(w.writes, i, put{a, p.value})...)
				b.wantNothing(old)
			}
		}
	}
	for _, a := range below {
		b := newBench(t, old)
		b.writes(erases(put{a, 0x10})...)
		b.wantNothing(old)
	}
}

// P11.1: sequences that aren't whole

func TestOneWriteLeftOut(t *testing.T) {
	old := filled(2)
	for _, w := range wholes() {
		for i := range w.writes {
			b := newBench(t, old)
			b.writes(slices.Delete(slices.Clone(w.writes), i, i+1)...)
			b.wantNothing(old)
			if i == len(w.writes)-1 { // the last one still may come
				b.writes(w.writes[i])
				b.wantLeft(w.busy)
			}
			b.wait()
		}
	}
}

func TestOneWritePutTwice(t *testing.T) {
	old := filled(2)
	for _, w := range wholes() {
		for i, p := range w.writes {
			b := newBench(t, old)
			b.writes(slices.Insert(slices.Clone(w.writes), i, p)...)
			switch {
			case i == len(w.writes)-1: // it was whole with the first of both
				b.wantLeft(w.busy)
			case w.busy == 10 && i == 2: // the second a0 is programmed
				b.wantWaits(api.Wait{Kind: api.Programs, From: 0x55, Many: 1, Value: 0xa0})
			default:
				b.wantNothing(old)
			}
			b.wait()
		}
	}
}

// Other bytes, and other lowest bytes of the address: some that mean something elsewhere, all that are a bit away.
func TestOneWriteMadeAnother(t *testing.T) {
	old := filled(2)
	for _, w := range wholes() {
		for i, p := range w.writes {
			for _, other := range others(p) {
				b := newBench(t, old)
				b.writes(changed(w.writes, i, other)...)
				b.compare()
				if !mayGoOn(w, i, other) {
					b.wantNothing(old)
					b.writes(w.writes...)
					b.wantLeft(w.busy)
				}
				b.wait()
			}
		}
	}
}

// mayGoOn tells whether another write may make a sequence of it all the same: then what comes of it is held against the model alone, or told in numbers elsewhere.
func mayGoOn(w whole, i int, other put) bool {
	command := other.at%256 == 0x55 && slices.Contains([]byte{0xa0, 0x80, 0x90, 0x10}, other.value)
	last := i == len(w.writes)-1
	return command || last && (w.busy == 10 || other.value == 0x30)
}

func others(p put) []put {
	var l []put
	for bit := range 8 {
		l = append(l, put{p.at, p.value ^ 1<<bit}, put{p.at ^ 1<<bit, p.value}, put{p.at ^ 1<<bit + 256, p.value})
	}
	for _, v := range []byte{0, 0xff, 0x55, 0xaa, 0xa0, 0x80, 0x90, 0x10, 0x30, 0xf0, 0xbf} {
		if v != p.value {
			l = append(l, put{p.at, v})
		}
	}
	for _, at := range []int{0, 0xff, 0x55, 0xaa, 0x5555 &^ 0xff, 0x2aaa &^ 0xff} {
		if at%256 != p.at%256 {
			l = append(l, put{at, p.value})
		}
	}
	return l
}

// In numbers, what the words above would leave to a model: 30 erases a sector at any address, 10 all at a command's alone.
func TestTheLastWriteOfAnErasing(t *testing.T) {
	old := filled(2)
	for at := range 512 {
		b := newBench(t, old)
		b.writes(erases(put{at, 0x30})...)
		b.wantWaits(api.Wait{Kind: api.Erases, From: at &^ 0xff, Many: 256})
		b = newBench(t, old)
		b.writes(erases(put{at, 0x10})...)
		if at%256 == 0x55 {
			b.wantWaits(api.Wait{Kind: api.Erases, From: 0, Many: 512})
		} else {
			b.wantLeft(0)
		}
		for _, v := range []byte{0, 0x11, 0x12, 0x20, 0x31, 0x32, 0x50, 0x70, 0x80, 0x90, 0xa0, 0xb0, 0xff} {
			b = newBench(t, old)
			b.writes(erases(put{at, v})...)
			b.wantLeft(0)
		}
	}
}

// A write with which no sequence goes on ends what was begun, and begins none, though it be the first one of a KEY.
func TestWhatEndsBeginsNone(t *testing.T) {
	old := filled(2)
	first := put{0x55, 0xaa}
	for _, w := range wholes() {
		for i := 1; i < len(w.writes); i++ {
			if i == 3 { // there it goes on: as the byte that is programmed, or as the second KEY's
				continue
			}
			b := newBench(t, old)
			b.writes(w.writes[:i]...)
			b.writes(first)
			b.writes(programs(7, 0)[1:]...) // what is left of a sequence that it had begun
			b.wantNothing(old)
			b.writes(w.writes[:i]...)
			b.writes(first)
			b.writes(w.writes...) // a whole one behind it
			b.wantLeft(w.busy)
		}
	}
}

// f0 at each step ends what was begun, and has it identify itself no more; where a byte is to be programmed it is that byte.
func TestF0AtEachStep(t *testing.T) {
	old := filled(2)
	for _, w := range wholes() {
		for i := range w.writes {
			for _, at := range []int{0, 0x55, 0xaa, 0x155, 7, -1} {
				b := newBench(t, old)
				b.writes(identifies()...)
				b.wantName()
				b.writes(w.writes[:i]...)
				b.wantName()
				b.write(at, 0xf0)
				if w.busy == 10 && i == 3 {
					b.wantWaits(api.Wait{Kind: api.Programs, From: max(at, 0), Many: 1, Value: 0xf0})
					b.wait()
					b.wantBytes(with(old, max(at, 0), old[max(at, 0)]&0xf0))
					continue
				}
				b.wantLeft(0)
				b.wantRead(0, old[0])
				if i > 0 {
					b.writes(w.writes[i:]...)
				}
				b.wantNothing(old)
			}
		}
	}
}

func TestF0BehindEachSequence(t *testing.T) {
	old := filled(2)
	for _, w := range wholes() {
		b := newBench(t, old)
		b.writes(w.writes...)
		b.write(0x55, 0xf0)
		b.wantLeft(w.busy)
		b.wait()
		b.wantRead(0, b.m.bytes[0])
	}
}

// P11.1: while it is busy

// Whatever is written while it is busy does nothing, neither then nor later.
func TestWritesWhileItIsBusy(t *testing.T) {
	old := filled(2)
	for _, w := range wholes() {
		for _, behind := range wholes() {
			for split := range behind.writes {
				if w.busy == 0 {
					continue
				}
				b := newBench(t, old)
				b.writes(w.writes...)
				b.ticks(1)
				b.writes(behind.writes[:split+1]...)
				b.wantLeft(w.busy - 1)
				b.ticks(w.busy - 2)
				b.writes(behind.writes[:split+1]...)
				b.wantLeft(1)
				b.ticks(1)
				now := b.c.Bytes()
				b.writes(behind.writes[split+1:]...) // what is left of one that was begun while it was busy
				b.wantNothing(now)
			}
		}
	}
}

// As soon as it isn't busy any more a sequence may begin.
func TestASequenceRightBehindTheLastTick(t *testing.T) {
	for _, w := range wholes() {
		for _, behind := range wholes() {
			b := newBench(t, filled(2))
			b.writes(w.writes...)
			b.ticks(w.busy)
			b.writes(behind.writes...)
			b.wantLeft(behind.busy)
			b.wait()
		}
	}
}

// Ticks, and whatever is asked, are no writes: a sequence goes on behind them.
func TestOnlyWritesCount(t *testing.T) {
	for _, w := range wholes() {
		b := newBench(t, filled(2))
		for _, p := range w.writes {
			b.ticks(3)
			b.compare()
			b.writes(p)
		}
		b.wantLeft(w.busy)
		b.wait()
	}
}

// P11.2

// Bit 7 is the programmed byte's, turned over, bit 6 is turned over from read to read, wherever is read.
func TestReadsWhileItPrograms(t *testing.T) {
	for v := range 256 {
		b := newBench(t, filled(2))
		b.writes(programs(7, byte(v))...)
		want := byte(0x80)
		if v >= 0x80 {
			want = 0
		}
		for i, a := range []int{7, 7, 0, 1, 511, 512, -1, 7, 7} {
			b.wantRead(a, want|byte(i%2)<<6)
		}
		b.ticks(9)
		b.wantRead(7, want|0x40)
		b.ticks(1)
		b.wantRead(7, filled(2)[7]&byte(v))
	}
}

func TestReadsWhileItErases(t *testing.T) {
	for _, w := range wholes() {
		if w.busy < 100 {
			continue
		}
		b := newBench(t, filled(2))
		b.writes(w.writes...)
		for left := w.busy; left > 0; left-- {
			b.wantRead(left, byte((w.busy-left)%2)<<6)
			b.ticks(1)
		}
		b.wantRead(0x107, 0xff)
	}
}

// However many reads there were while it was busy, at the first of the next ones bit 6 is 0 again.
func TestBit6BeginsAnew(t *testing.T) {
	b := newBench(t, ones(512))
	for reads := range 4 {
		for _, w := range wholes() {
			if w.busy == 0 {
				continue
			}
			b.writes(w.writes...)
			for i := range reads {
				if got := b.read(0) & 0x40; got != byte(i%2)<<6 {
					t.Errorf("read %d has the bit 6 %02x", i, got)
				}
			}
			b.ticks(w.busy)
			b.read(0)
		}
	}
}

// Nothing but a read turns bit 6 over.
func TestOnlyReadsTurnBit6(t *testing.T) {
	b := newBench(t, ones(256))
	b.writes(erasesAll()...)
	for i := range 5 {
		b.wantRead(0, byte(i%2)<<6)
		b.ticks(1)
		b.writes(identifies()...)
		b.write(0, 0xf0)
		b.c.Bytes()
		b.c.Left()
		b.c.Waits()
		b.c.Cut([]byte{1})
	}
}

func TestItIdentifiesItself(t *testing.T) {
	for sectors := 1; sectors <= 64; sectors++ {
		old := filled(sectors)
		b := newBench(t, old)
		b.writes(identifies()...)
		b.wantLeft(0)
		b.wantWaits(api.Wait{})
		for a := -3; a < 2*len(old); a++ {
			want := byte(0xbf)
			if a > 0 && a%2 == 1 {
				want = byte(sectors)
			}
			b.wantRead(a, want)
		}
		b.wantRead(math.MaxInt, byte(sectors))
		b.wantRead(math.MaxInt-1, 0xbf)
		b.wantRead(math.MinInt, 0xbf)
		b.wantBytes(old)
		b.ticks(2 * ChipBusy)
		b.wantName()
		b.write(3, 0xf0)
		for a, v := range old {
			b.wantRead(a, v)
		}
	}
}

// Just f0, a Program and an Erase end it: no other write does, and it may be asked for again.
func TestItIdentifiesItselfTill(t *testing.T) {
	old := filled(2)
	for _, p := range some() {
		b := newBench(t, old)
		b.writes(identifies()...)
		b.writes(p)
		if p.value == 0xf0 {
			b.wantRead(0, old[0])
		} else {
			b.wantName()
		}
	}
	b := newBench(t, old)
	for range 3 {
		b.writes(identifies()...)
		b.wantName()
	}
	b.write(0, 0xf0)
	b.wantRead(1, old[1])
	b.writes(identifies()...)
	b.wantName()
}

func TestItIdentifiesItselfNoMoreBehindAProgramOrAnErase(t *testing.T) {
	for _, w := range wholes() {
		if w.busy == 0 {
			continue
		}
		b := newBench(t, filled(2))
		b.writes(identifies()...)
		b.writes(w.writes[:len(w.writes)-1]...)
		b.wantName()
		b.writes(w.writes[len(w.writes)-1])
		if got := b.read(0); got == 0xbf {
			t.Errorf("%s: it is busy, and identifies itself", w.does)
		}
		b.ticks(w.busy)
		for a := range 512 {
			b.wantRead(a, b.c.Bytes()[a])
		}
	}
}

// P11.3

// Left and Waits ahead of each write of each sequence, and behind it.
func TestLeftAndWaitsInEachSequence(t *testing.T) {
	for _, w := range wholes() {
		b := newBench(t, filled(2))
		for _, p := range w.writes {
			b.wantLeft(0)
			b.wantWaits(api.Wait{})
			b.writes(p)
		}
		b.wantLeft(w.busy)
		if (b.c.Waits() == api.Wait{}) != (w.busy == 0) {
			t.Errorf("%s: Waits is %v", w.does, b.c.Waits())
		}
		b.wait()
		b.wantLeft(0)
		b.wantWaits(api.Wait{})
	}
}

func TestCutOfAProgram(t *testing.T) {
	old := with(filled(2), 0x107, 0xf0)
	for _, x := range []struct {
		pick []byte
		want byte
	}{
		{nil, 0xf0}, {[]byte{}, 0xf0}, {[]byte{0}, 0}, {[]byte{0xff}, 0xf0}, {[]byte{0x3c}, 0x30}, {[]byte{0x0f}, 0}, {[]byte{0x3c, 0, 7}, 0x30}, {[]byte{0xff, 0}, 0xf0},
	} {
		b := newBench(t, old)
		b.writes(programs(0x107, 0x0f)...)
		for range 10 {
			if got := b.c.Cut(x.pick); !bytes.Equal(got, with(old, 0x107, x.want)) {
				t.Errorf("cut with %v picked, the place has %02x, want %02x", x.pick, got[0x107], x.want)
			}
			b.wantBytes(old)
			b.ticks(1)
		}
		b.wantBytes(with(old, 0x107, 0))
		if got := b.c.Cut(x.pick); !bytes.Equal(got, b.c.Bytes()) {
			t.Errorf("it isn't busy, and Cut(%v) isn't Bytes", x.pick)
		}
	}
}

func TestCutOfAnErasing(t *testing.T) {
	old := filled(3)
	for _, x := range []struct {
		writes     []put
		from, many int
	}{
		{erasesSector(0), 0, 256}, {erasesSector(0x1ff), 256, 256}, {erasesSector(0x207), 512, 256}, {erasesAll(), 0, 768},
	} {
		for _, n := range []int{0, 1, 2, x.many - 1, x.many, x.many + 1, 2 * x.many, 1 << 12} {
			b := newBench(t, old)
			b.writes(x.writes...)
			pick := counted(99, n)
			want := with(old, x.from, pick[:min(n, x.many)]...)
			for range 3 {
				if !bytes.Equal(b.c.Cut(pick), want) {
					t.Errorf("cut with %d picked, it isn't what was there with what is picked from %x on", n, x.from)
				}
				b.wantBytes(old)
				b.ticks(33)
			}
			b.wait()
			b.wantBytes(with(old, x.from, ones(x.many)...))
		}
	}
}

// Cut changes nothing of the chip: one that is cut again and again goes on like one that isn't.
func TestCutChangesNothing(t *testing.T) {
	for _, w := range wholes() {
		b := newBench(t, filled(2))
		cut := func() {
			for _, pick := range [][]byte{nil, {0}, counted(1, 700)} {
				b.c.Cut(pick)
			}
		}
		for _, p := range w.writes {
			cut()
			b.writes(p)
		}
		for range w.busy {
			cut()
			b.read(7)
			b.ticks(1)
		}
		cut()
		b.wantBytes(b.m.bytes)
		b.compare()
	}
}
