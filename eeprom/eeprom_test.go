package eeprom

import (
	"bytes"
	"fmt"
	"maps"
	"math"
	"slices"
	"testing"

	"keepsake/api"
)

// P10.1: New

func TestNewOfEveryKind(t *testing.T) {
	for kind := 1; kind <= 10; kind++ {
		data := filled(kind)
		c, e := New(kind, data)
		if e != api.OK || c == nil {
			t.Fatalf("New of kind %d is %v, %v", kind, c, e)
		}
		at, v := c.Waits()
		if !bytes.Equal(c.Bytes(), data) || c.Pointer() != 0 || c.Left() != 0 || len(at) != 0 || len(v) != 0 {
			t.Errorf("New of kind %d has the pointer %d, %d left, and %v, %v wait", kind, c.Pointer(), c.Left(), at, v)
		}
		if !bytes.Equal(c.Cut([]byte{1, 2, 3}), data) {
			t.Errorf("New of kind %d, cut, isn't its bytes", kind)
		}
		for _, n := range []int{len(data) - 1, len(data) + 1, 0, 1, len(data) / 2, len(data) * 2, len(data) + 1<<16} {
			wantErrArg(t, kind, make([]byte, n))
		}
		wantErrArg(t, kind, nil)
	}
}

func TestNewOfKindsThatThereAreNot(t *testing.T) {
	for _, kind := range []int{0, -1, -2, 11, 12, 256, 257, 1<<16 + 1, 1<<32 + 1, 1<<63 - 1, math.MinInt, math.MinInt + 1, -1 << 32} {
		wantErrArg(t, kind, nil)
		wantErrArg(t, kind, []byte{})
		for _, row := range kinds {
			wantErrArg(t, kind, make([]byte, row.bytes))
		}
	}
}

func wantErrArg(t *testing.T, kind int, data []byte) {
	t.Helper()
	if c, e := New(kind, data); c != nil || e != api.ErrArg {
		t.Errorf("New of kind %d and %d bytes is %v, %v", kind, len(data), c, e)
	}
}

func TestBusyInNumbers(t *testing.T) {
	if Busy != 50 {
		t.Error(Busy)
	}
}

// P10.1: Step

func TestTheExampleOfTheChapter(t *testing.T) {
	old := filled(1)
	b := newBus(t, 1, old)
	b.start()
	b.must(0xa0, 0x05, 0x2a)
	b.stop()
	b.wantWaits(50, []int{5}, []byte{0x2a})
	b.wait(49)
	b.wantBytes(old)
	b.wait(1)
	b.wantBytes(with(old, 5, 0x2a))
	b.wantWaits(0, nil, nil)
}

// The line in each cycle of a byte that is written, and of one that is read: what the master has low is low, and what the chip pulls.
func TestTheLineInEachCycle(t *testing.T) {
	b := newBus(t, 1, with(filled(1), 5, 0xb2))
	for _, x := range []struct{ steps, want string }{
		{"20", "00"}, // Start
		{bitsOf(0xa0), bitsWant(0xa0, 7) + "000"}, // behind the Fall of the last bit, that is 0 anyway
		{"131", "001"}, // the chip pulls till the Fall, and not in that step
		{bitsOf(0x05), bitsWant(0x05, 7) + "110"}, // the last bit is 1, and the chip pulls from its Fall on
		{"020", "000"},   // the master has it low too
		{"1320", "1100"}, // another Start
		{bitsOf(0xa1), bitsWant(0xa1, 7) + "110"},
		{"131", "001"}, // here bit 7 is told: b2 is 10110010
		{"130", "110"}, // the master has it low behind, and the chip pulls
		{"131", "001"}, // bit 6, and 5 from its Fall on
		{"131", "111"},
		{"131", "110"}, // bit 4, and 3
		{"1313", "0000"},
	} {
		if got := b.run(x.steps); got != x.want {
			t.Fatalf("the lines of %s are %s, want %s", x.steps, got, x.want)
		}
	}
}

// bitsWant is the lines of the first n bits that the master tells, where the chip doesn't pull.
func bitsWant(v byte, n int) string {
	text := ""
	for k := range n {
		text += []string{"000", "111"}[v>>(7-k)&1]
	}
	return text
}

func TestAheadOfTheFirstStepBothLinesWereHigh(t *testing.T) {
	for first, acknowledged := range map[string]bool{
		"20":     true, // a Start
		"3320":   true,
		"0":      false, // a Fall
		"1":      false,
		"30":     false,
		"020":    false, // the data was low ahead of the clock's rise
		"01320":  true,
		"0320":   true, // both rise at once: a Rise, and a Start behind it
		"120":    false,
		"03":     false,
		"3":      false,
		"2320":   true,
		"23":     false, // a Start and a Stop
		"230":    false,
		"20230":  false,
		"201320": true, // a Start behind a Start
	} {
		b := newBus(t, 1, filled(1))
		b.run(first)
		if got := b.put(0xa0); got != acknowledged {
			t.Errorf("behind %s the device's byte is acknowledged: %v", first, got)
		}
	}
}

// A chip that is idle pulls nothing, whatever is told.
func TestIdleTillAStart(t *testing.T) {
	for kind := 1; kind <= 10; kind++ {
		b := newBus(t, kind, filled(kind))
		for range 2 {
			for _, v := range []byte{0xa0, 0xa1, 0x00, 0xff} {
				if b.put(v) {
					t.Errorf("kind %d: an idle chip acknowledges %x", kind, v)
				}
			}
			b.wantPointer(0)
			b.start() // and behind a Stop it is idle again
			b.must(0xa0)
			b.stop()
		}
	}
}

// The bit is what the line is behind the Rise, whatever it was ahead of it and will be behind the Fall; cycles more change nothing.
func TestWhenABitIsTaken(t *testing.T) {
	for _, one := range []string{"03", "13", "033", "1133", "013331", "1310", "03110"} {
		for _, zero := range []string{"02", "12", "022", "1122", "102220", "0201", "12001"} {
			b := newBus(t, 1, filled(1))
			b.run("20")
			for _, bit := range "10100000" {
				b.run(map[rune]string{'1': one, '0': zero}[bit])
			}
			if line := b.run("131"); line != "001" {
				t.Errorf("a0, told by %s and %s, isn't acknowledged: %s", one, zero, line)
			}
		}
	}
}

func TestLevelsThatStay(t *testing.T) {
	next := chance(1)
	for kind := 1; kind <= 10; kind++ {
		for range 20 {
			old, v := filled(kind), someBytes(next, 3)
			b := newBus(t, kind, old)
			text := "01320"
			for _, x := range append(opening(kind, kinds[kind].page), v...) {
				text += bitsOf(x) + "131"
			}
			b.run(stretched(next, text+"02"))
			b.run("3")
			b.wantWaits(50, []int{kinds[kind].page, kinds[kind].page + 1, kinds[kind].page + 2}, v)
			b.run(stretched(next, "33333333333333333333333333333333333333333333333333"))
			b.wantBytes(with(old, kinds[kind].page, v...))
		}
	}
}

// P10.1: the device's byte

// isMeant is told in numbers of each kind: the writes that are acknowledged are those below, and the reads one more.
func isMeant(kind int, v byte) bool {
	writes := [][]byte{
		1: {0xa0}, 2: {0xa0},
		3: {0xa0, 0xa2},
		4: {0xa0, 0xa2, 0xa4, 0xa6},
		5: {0xa0, 0xa2, 0xa4, 0xa6, 0xa8, 0xaa, 0xac, 0xae},
		6: {0xa0}, 7: {0xa0}, 8: {0xa0}, 9: {0xa0}, 10: {0xa0},
	}
	return slices.Contains(writes[kind], v&^1)
}

func TestEachDevicesByte(t *testing.T) {
	for kind := 1; kind <= 10; kind++ {
		b := newBus(t, kind, filled(kind))
		for v := range 256 {
			b.start()
			if got := b.put(byte(v)); got != isMeant(kind, byte(v)) {
				t.Errorf("kind %d: %x is acknowledged: %v", kind, v, got)
			}
			b.get(false) // behind a read: a bit 0 that is told would keep the next Start from being one
		}
	}
}

// A write listens for an address behind the device's byte; a read tells a byte; one that isn't acknowledged does nothing.
func TestWhatFollowsEachDevicesByte(t *testing.T) {
	for kind := 1; kind <= 10; kind++ {
		data := filled(kind)
		for v := range 256 {
			b := newBus(t, kind, data)
			b.to(17)
			b.start()
			b.put(byte(v))
			block := 256 * (v >> 1 & 7)
			switch {
			case !isMeant(kind, byte(v)):
				b.wantPointer(17)
				if got := b.get(false); got != 0xff || b.put(0) || b.put(0xa0) {
					t.Errorf("kind %d: behind %x it tells %x, or acknowledges more", kind, v, got)
				}
				b.wantPointer(17)
			case v&1 == 1:
				b.wantPointer(block + 18)
				if got := b.get(false); got != data[block+17] {
					t.Errorf("kind %d: behind %x it tells %x", kind, v, got)
				}
				b.wantPointer(block + 18)
			default:
				b.wantPointer(17)
				b.must(opening(kind, 33)[1:]...)
				b.wantPointer(block + 33)
			}
		}
	}
}

func TestEachDevicesByteWhileItIsBusy(t *testing.T) {
	for kind := 1; kind <= 10; kind++ {
		old := filled(kind)
		for v := range 256 {
			b := newBus(t, kind, old)
			b.save(3, 0x77)
			b.start() // it takes 5 steps, and a byte 27
			if b.put(byte(v)) {
				t.Errorf("kind %d: busy, it acknowledges %x", kind, v)
			}
			b.wantPointer(4)
			b.wantWaits(18, []int{3}, []byte{0x77})
			for range 3 {
				if b.put(0xa0) {
					t.Errorf("kind %d: idle behind %x, it acknowledges a0", kind, v)
				}
			}
			b.wantBytes(with(old, 3, 0x77))
			b.wantPointer(4)
		}
	}
}

// Of a write the pointer stays as it is till the address is whole; of a read of a kind with blocks it is the block's behind the device's byte.
func TestWhenTheBlockCounts(t *testing.T) {
	for kind := 1; kind <= 10; kind++ {
		blocks := 1 << kinds[kind].blocks
		for from := range blocks {
			for to := range blocks {
				b := newBus(t, kind, filled(kind))
				b.to(from*256 + 100)
				b.start()
				b.must(0xa0 + byte(2*to))
				b.wantPointer(from*256 + 100)
				b.start()
				b.bits(0xa1+byte(2*to), 7)
				b.run("13")
				b.wantPointer(from*256 + 100)
				b.run("1")
				b.wantPointer(to*256 + 100)
				b.run("13")
				b.wantPointer(to*256 + 100)
				b.run("1") // it sends the first byte from here on
				b.wantPointer(to*256 + 101)
			}
		}
	}
}

// Of a kind without blocks a read begins wherever the pointer is.
func TestAReadWithoutBlocksKeepsThePointer(t *testing.T) {
	for _, kind := range []int{1, 2, 6, 7, 8, 9, 10} {
		data := filled(kind)
		for _, at := range []int{0, 1, 127, 255, 256, 257, 4095, 0x3fff, 0xff00} {
			if at >= len(data)-1 {
				continue
			}
			b := newBus(t, kind, data)
			b.to(at)
			b.start()
			b.must(0xa1)
			if got := b.get(false); got != data[at] {
				t.Errorf("kind %d: at %x is %x, want %x", kind, at, got, data[at])
			}
			b.wantPointer(at + 1)
		}
	}
}

// P10.1: the address

func TestEachAddressOfOneByte(t *testing.T) {
	for kind := 1; kind <= 5; kind++ {
		for block := range 1 << kinds[kind].blocks {
			b := newBus(t, kind, filled(kind))
			for low := range 256 {
				b.start()
				b.must(0xa0+byte(2*block), byte(low))
				want := block*256 + low
				if kind == 1 {
					want = low % 128 // it has no more
				}
				b.wantPointer(want)
			}
		}
	}
}

func TestAddressesOfTwoBytes(t *testing.T) {
	next := chance(2)
	for kind := 6; kind <= 10; kind++ {
		b := newBus(t, kind, filled(kind))
		n := []int{6: 4096, 7: 8192, 8: 16384, 9: 32768, 10: 65536}[kind]
		l := []int{0, 1, 255, 256, 257, n/2 - 1, n / 2, n - 1, n & 0xffff, (n + 1) & 0xffff, (n + 256) & 0xffff, (3*n + 7) & 0xffff, 0x8000, 0xff00, 0xffff}
		for range 300 {
			l = append(l, next(65536))
		}
		for _, at := range l {
			b.start()
			b.must(0xa0, byte(at>>8), byte(at))
			b.wantPointer(at % n)
		}
	}
}

// The pointer is the address from the Fall on behind its last bit.
func TestWhenTheAddressIsWhole(t *testing.T) {
	for kind := 1; kind <= 10; kind++ {
		b := newBus(t, kind, filled(kind))
		b.to(5)
		b.start()
		l := opening(kind, 101)
		last := len(l) - 1
		b.must(l[:last]...)
		b.wantPointer(5) // behind the first byte of two too
		b.bits(l[last], 7)
		b.run("13")
		b.wantPointer(5)
		b.run("1")
		b.wantPointer(101)
		b.run("131")
		b.wantPointer(101)
	}
}

// An address that isn't whole changes nothing; nor is what was heard of it a part of the next one.
func TestAnAddressThatEndsEarly(t *testing.T) {
	for kind := 1; kind <= 10; kind++ {
		for many := range 8 * kinds[kind].wide {
			for _, end := range []func(*bus){(*bus).start, (*bus).stop} {
				b := newBus(t, kind, filled(kind))
				b.to(9)
				b.start()
				b.must(0xa0)
				if many >= 8 {
					b.must(0x0f)
				}
				b.bits(0x5a, many%8)
				end(b)
				b.wantPointer(9)
				b.wantWaits(0, nil, nil)
				b.to(66)
				b.wantPointer(66)
			}
		}
	}
}

// P10.1: data bytes

// paged is which bytes stand where, behind some from a place on: each in the place that is next within the page.
func paged(kind, at int, l []byte) map[int]byte {
	page := kinds[kind].page
	out := map[int]byte{}
	for i, v := range l {
		out[at-at%page+(at%page+i)%page] = v
	}
	return out
}

func (b *bus) wantPaged(at int, l []byte, old []byte) {
	b.t.Helper()
	all := paged(b.m.kind, at, l)
	places := slices.Sorted(maps.Keys(all))
	var values []byte
	want := bytes.Clone(old)
	for _, place := range places {
		values = append(values, all[place])
		want[place] = all[place]
	}
	b.wantWaits(Busy, places, values)
	b.wantBytes(old)
	b.wait(Busy)
	b.wantBytes(want)
}

func TestDataBytesRoundThePagesEnd(t *testing.T) {
	for kind := 1; kind <= 10; kind++ {
		page, old := kinds[kind].page, filled(kind)
		for _, first := range []int{0, page, len(old)/2 - page, len(old) / 2, len(old) - page} {
			for _, offset := range []int{0, 1, page / 2, page - 2, page - 1} {
				for _, many := range []int{1, 2, 3, page - 1, page, page + 1, 2*page + 3} {
					b := newBus(t, kind, old)
					l := counted(byte(many+offset+100), many)
					b.save(first+offset, l...)
					b.wantPointer(first + (offset+many)%page)
					b.wantPaged(first+offset, l, old)
				}
			}
		}
	}
}

func TestDataBytesInNumbers(t *testing.T) {
	old := make([]byte, 128)
	for _, x := range []struct {
		at, pointer int
		bytes       string
		places      []int
		values      string
	}{
		{0x05, 0x06, "a", []int{5}, "a"},
		{0x05, 0x00, "abc", []int{5, 6, 7}, "abc"},
		{0x05, 0x01, "abcd", []int{0, 5, 6, 7}, "dabc"},
		{0x07, 0x00, "a", []int{7}, "a"},
		{0x07, 0x01, "ab", []int{0, 7}, "ba"},
		{0x7f, 0x79, "ab", []int{0x78, 0x7f}, "ba"},
		{0x08, 0x08, "abcdefgh", []int{8, 9, 10, 11, 12, 13, 14, 15}, "abcdefgh"},
		{0x0b, 0x0b, "abcdefgh", []int{8, 9, 10, 11, 12, 13, 14, 15}, "fghabcde"},
		{0x0b, 0x0c, "abcdefghi", []int{8, 9, 10, 11, 12, 13, 14, 15}, "fghibcde"}, // a is forgotten
		{0x0b, 0x0e, "abcdefghijklmnopqrs", []int{8, 9, 10, 11, 12, 13, 14, 15}, "nopqrslm"},
		{0x85, 0x06, "a", []int{5}, "a"}, // an address beyond its bytes
	} {
		b := newBus(t, 1, old)
		b.start()
		b.must(0xa0, byte(x.at))
		b.must([]byte(x.bytes)...)
		b.wantPointer(x.pointer)
		b.wantWaits(0, nil, nil) // what is collected doesn't wait yet
		b.stop()
		b.wantPointer(x.pointer)
		b.wantWaits(50, x.places, []byte(x.values))
	}
}

func TestEachDataByte(t *testing.T) {
	old := filled(1)
	b := newBus(t, 1, old)
	for v := range 256 {
		at := v % 128
		b.save(at, byte(v))
		b.wait(Busy)
		old[at] = byte(v)
		b.wantBytes(old)
	}
}

// A byte is collected at the Fall behind its last bit: from then on the pointer is one more.
func TestWhenADataByteIsCollected(t *testing.T) {
	for kind := 1; kind <= 10; kind++ {
		b := newBus(t, kind, filled(kind))
		b.to(2)
		b.bits(0x5b, 7)
		b.run("13")
		b.wantPointer(2)
		b.run("1")
		b.wantPointer(3)
		b.run("131")
		b.wantPointer(3)
		b.stop()
		b.wantWaits(Busy, []int{2}, []byte{0x5b})
	}
}

// P10.1: a Stop

func TestAStopBehindNoDataByte(t *testing.T) {
	for kind := 1; kind <= 10; kind++ {
		old := filled(kind)
		for many := range 1 + kinds[kind].wide { // behind no byte of the address, too
			b := newBus(t, kind, old)
			b.start()
			b.must(opening(kind, 5)[:1+many]...)
			b.stop()
			b.wantNothing(old)
		}
		b := newBus(t, kind, old)
		b.start()
		b.stop()
		b.wantNothing(old)
		b = newBus(t, kind, old)
		b.to(5)
		b.start()
		b.must(0xa1)
		b.get(true)
		b.get(false)
		b.stop()
		b.wantNothing(old)
	}
}

// A Stop has a Rise of its own ahead of it: so behind a whole byte just one bit is taken. Behind any others nothing is written.
func TestAStopWithinAByte(t *testing.T) {
	for kind := 1; kind <= 10; kind++ {
		old := filled(kind)
		for collected := range 3 {
			for more := range 8 {
				for _, v := range []byte{0x00, 0xff, 0x5a} {
					b := newBus(t, kind, old)
					b.to(5)
					b.must(counted(0x31, collected)...)
					b.bits(v, more)
					b.stop() // the bit of its Rise is number more + 1
					b.wantPointer(5 + collected)
					if more == 0 && collected > 0 {
						b.wantWaits(50, []int{5, 6}[:collected], counted(0x31, collected))
						continue
					}
					b.wantNothing(old)
				}
			}
		}
	}
}

// The bit of the Stop's Rise may be the eighth: there is no Fall that the byte is judged by.
func TestAStopAtTheEighthBit(t *testing.T) {
	old := filled(2)
	b := newBus(t, 2, old)
	b.to(0x10)
	b.must(1)
	b.bits(0xfe, 7)
	b.run("023")
	b.wantPointer(0x11)
	b.wantNothing(old)
}

// While the chip pulls for its acknowledgement the master can't make a Stop of it; behind the acknowledgement's clock it can.
func TestAStopWhileItAcknowledges(t *testing.T) {
	old := filled(1)
	b := newBus(t, 1, old)
	b.to(5)
	b.bits(0x42, 8)
	if line := b.run("0232323"); line != "0000000" {
		t.Error("the line is", line)
	}
	b.wantWaits(0, nil, nil)
	if line := b.run("1"); line != "1" {
		t.Error("behind the Fall the line is", line)
	}
	b.run("023")
	b.wantWaits(50, []int{5}, []byte{0x42})
}

// The clock needn't fall for the data: the Rise of the Stop may come in the step behind the acknowledgement's Fall.
func TestAStopAtOnce(t *testing.T) {
	b := newBus(t, 1, filled(1))
	b.to(5)
	b.bits(0x42, 8)
	b.run("13023")
	b.wantWaits(50, []int{5}, []byte{0x42})
	b = newBus(t, 1, filled(1))
	b.to(5)
	b.bits(0x42, 8)
	b.run("13123") // the data falls with the clock's rise
	b.wantWaits(50, []int{5}, []byte{0x42})
	b = newBus(t, 1, filled(1))
	b.to(5)
	b.bits(0x42, 8)
	b.run("1303") // the data rises with the clock: no Stop, but a bit
	b.wantWaits(0, nil, nil)
	b.run("23") // a Start, and a Stop
	b.wantWaits(0, nil, nil)
}

func TestAStartInAStopsPlace(t *testing.T) {
	for kind := 1; kind <= 10; kind++ {
		old := filled(kind)
		b := newBus(t, kind, old)
		b.to(5)
		b.must(1, 2)
		b.start()
		b.wantPointer(7)
		b.stop()
		b.wantNothing(old)
		b.to(5)
		b.must(1, 2, 3)
		b.to(9) // what was collected is forgotten, and what comes behind it isn't
		b.must(4)
		b.stop()
		b.wantWaits(50, []int{9}, []byte{4})
		b.wait(50)
		b.wantBytes(with(old, 9, 4))
	}
}

// Behind a Stop nothing is left of what was collected: another one writes nothing.
func TestAStopBehindAStop(t *testing.T) {
	old := filled(1)
	for _, wp := range []bool{false, true} {
		b := newBus(t, 1, old)
		b.to(5)
		b.must(7)
		b.wp = wp
		b.stop()
		b.wp = false
		b.stop()
		b.stop()
		b.wait(2 * Busy)
		if !wp {
			b.wantBytes(with(old, 5, 7))
			b.stop()
			b.wantWaits(0, nil, nil)
			continue
		}
		b.wantNothing(old)
	}
}

func TestAStopWithWpHigh(t *testing.T) {
	for kind := 1; kind <= 10; kind++ {
		old := filled(kind)
		b := newBus(t, kind, old)
		b.wp = true // it acknowledges all the same, and the pointer goes on
		b.to(5)
		b.must(1, 2)
		b.stop()
		b.wantPointer(7)
		b.wantNothing(old)
		b.start() // and it isn't busy
		b.must(0xa1)
		if got := b.get(false); got != old[7] {
			t.Errorf("kind %d: it tells %x", kind, got)
		}
	}
}

// Wp counts in the Stop's step alone.
func TestWhenWpCounts(t *testing.T) {
	old := filled(1)
	b := newBus(t, 1, old)
	b.wp = true
	b.to(5)
	b.must(1)
	b.run("463")
	b.wantWaits(50, []int{5}, []byte{1})
	b.wait(50) // nor does it keep from being written what waits
	b.wantBytes(with(old, 5, 1))
	b = newBus(t, 1, old)
	b.to(5)
	b.must(1)
	b.run("027")
	b.wantNothing(old)
}

// P10.1, P10.2: how long it is busy

func TestBusyForJustSoManySteps(t *testing.T) {
	for kind := 1; kind <= 10; kind++ {
		old := filled(kind)
		for _, idle := range []string{"3", "0", "1", "7", "01", "0202"} { // whatever the lines do
			b := newBus(t, kind, old)
			b.save(5, 0x99, 0x98)
			for left := 50; left > 0; left-- {
				b.wantWaits(left, []int{5, 6}, []byte{0x99, 0x98})
				b.wantBytes(old)
				b.run(idle[left%len(idle) : left%len(idle)+1])
			}
			b.wantWaits(0, nil, nil)
			b.wantBytes(with(old, 5, 0x99, 0x98))
			b.wait(2 * Busy)
			b.wantWaits(0, nil, nil)
			b.wantBytes(with(old, 5, 0x99, 0x98))
		}
	}
}

// The device's byte is judged in the step of its last Fall, in which the chip is busy one step less ahead of that: it is acknowledged from the fiftieth step on.
func TestWhenItAcknowledgesAgain(t *testing.T) {
	for kind := 1; kind <= 10; kind++ {
		for judged := 40; judged <= 60; judged++ {
			for _, v := range []byte{0xa0, 0xa1} {
				b := newBus(t, kind, filled(kind))
				b.save(5, 0x99)
				text := "01320" + bitsOf(v)
				b.wait(judged - len(text))
				b.run(text)
				if want := max(0, 50-judged); b.c.Left() != want {
					t.Errorf("kind %d: behind %d steps %d are left", kind, judged, b.c.Left())
				}
				if got := !b.clock(true); got != (judged >= 50) {
					t.Errorf("kind %d: judged %d steps behind the Stop, %x is acknowledged: %v", kind, judged, v, got)
				}
			}
		}
	}
}

// Whatever comes while it is busy, it goes on, and what waits stays.
func TestWhatComesWhileItIsBusy(t *testing.T) {
	for kind := 1; kind <= 10; kind++ {
		old := filled(kind)
		for name, what := range map[string]func(*bus){
			"a Start":     (*bus).start,
			"a Stop":      (*bus).stop,
			"a byte":      func(b *bus) { b.put(0xa0) },
			"a write":     func(b *bus) { b.start(); b.put(0xa0); b.stop() },
			"wp":          func(b *bus) { b.wp = true; b.stop(); b.wait(3) },
			"a Stop only": func(b *bus) { b.run("2323") },
		} {
			b := newBus(t, kind, old)
			b.save(5, 0x99)
			what(b)
			places, values := b.c.Waits()
			if !slices.Equal(places, []int{5}) || !bytes.Equal(values, []byte{0x99}) || b.c.Left() == 0 || b.c.Left() >= 50 {
				t.Errorf("kind %d: behind %s %v, %v wait for %d steps", kind, name, places, values, b.c.Left())
			}
			b.wantBytes(old)
			b.wait(b.c.Left() - 1)
			b.wantBytes(old)
			b.wait(1)
			b.wantBytes(with(old, 5, 0x99))
			b.wantWaits(0, nil, nil)
		}
	}
}

// A write can begin while it is busy, as long as the device's byte ends behind that: what waited is written then, and the rest waits later.
func TestAWriteBehindAWrite(t *testing.T) {
	for kind := 1; kind <= 10; kind++ {
		old := filled(kind)
		b := newBus(t, kind, old)
		b.save(5, 1, 2)
		b.wait(Busy - 20)
		b.save(6, 3, 4)
		b.wantWaits(50, []int{6, 7}, []byte{3, 4})
		b.wantBytes(with(old, 5, 1, 2))
		b.wait(50)
		b.wantBytes(with(old, 5, 1, 3, 4))
	}
}

// P10.1: reads

func TestReadsRoundTheChipsEnd(t *testing.T) {
	for kind := 1; kind <= 10; kind++ {
		data, page := filled(kind), kinds[kind].page
		n := len(data)
		for _, at := range []int{0, 1, page - 1, page, 100, n/2 - 1, n - page, n - 3, n - 2, n - 1} {
			b := newBus(t, kind, data)
			b.to(at)
			b.start()
			b.must(opening(kind, at)[0] + 1)
			for i := range page + 4 {
				if got := b.get(true); got != data[(at+i)%n] {
					t.Errorf("kind %d: the byte %d from %x on is %x, want %x", kind, i, at, got, data[(at+i)%n])
				}
				b.wantPointer((at + i + 2) % n) // the next one is being sent already
			}
			b.get(false)
			b.wantPointer((at + page + 5) % n)
		}
	}
}

func TestAWholeChipIsRead(t *testing.T) {
	for kind := 1; kind <= 7; kind++ {
		data := filled(kind)
		b := newBus(t, kind, data)
		b.start()
		b.must(0xa1) // of a new chip the pointer is 0
		for i := range len(data) + 10 {
			if got := b.get(true); got != data[i%len(data)] {
				t.Fatalf("kind %d: the byte %d is %x", kind, i, got)
			}
		}
		b.wantBytes(data)
	}
}

func TestEachByteIsSent(t *testing.T) {
	b := newBus(t, 2, counted(0, 256))
	b.start()
	b.must(0xa1)
	for v := range 256 {
		if got := b.get(true); got != byte(v) {
			t.Errorf("%x is sent as %x", v, got)
		}
	}
}

// What isn't acknowledged is the end: it is idle from the Rise on till a Start, and the next read goes on from there.
func TestAReadThatIsNotAcknowledged(t *testing.T) {
	for kind := 1; kind <= 10; kind++ {
		data := filled(kind)
		b := newBus(t, kind, data)
		b.start()
		b.must(0xa1)
		b.get(true)
		if got := b.get(false); got != data[1] {
			t.Errorf("kind %d: the second byte is %x", kind, got)
		}
		for range 3 {
			if got := b.get(true); got != 0xff {
				t.Errorf("kind %d: idle, it tells %x", kind, got)
			}
		}
		b.wantPointer(2)
		for _, end := range []func(*bus){(*bus).stop, func(*bus) {}} {
			end(b)
			at := b.c.Pointer()
			b.start()
			b.must(0xa1)
			if got := b.get(false); got != data[at] {
				t.Errorf("kind %d: it goes on with %x, want %x", kind, got, data[at])
			}
		}
	}
}

// A master that has the line low in the Rise acknowledges, whatever it has ahead of it and behind it.
func TestWhenTheMasterAcknowledges(t *testing.T) {
	data := []byte{0xff, 0x5a}
	for steps, given := range map[string]bool{
		"020": true, "021": true, "120": true, "121": true, "0222210": true,
		"030": false, "131": false, "031": false, "130": false, "0333001": false,
	} {
		b := newBus(t, 1, append(bytes.Clone(data), make([]byte, 126)...))
		b.start()
		b.must(0xa1)
		b.bits(0xff, 8)
		b.run(steps)
		want := byte(0xff)
		if given {
			want = 0x5a
		}
		if got := b.get(true); got != want {
			t.Errorf("behind %s it sends %x", steps, got)
		}
	}
}

// Where the master lets the data go behind its own acknowledgement, while the clock is high, that is a Stop; where it takes it down there, a Start.
func TestAStopAndAStartAtTheMastersAcknowledgement(t *testing.T) {
	data := filled(1)
	b := newBus(t, 1, data)
	b.start()
	b.must(0xa1)
	b.bits(0xff, 8)
	b.run("0231")
	if got := b.get(true); got != 0xff {
		t.Errorf("behind a Stop it sends %x", got)
	}
	b.wantPointer(1)
	b = newBus(t, 1, data)
	b.start()
	b.must(0xa1)
	b.bits(0xff, 8)
	b.run("1320")
	b.must(0xa1)
	if got := b.get(true); got != data[1] {
		t.Errorf("behind a Start it sends %x", got)
	}
}

// Within a byte that is sent a bit 1 lets the master end it; a bit 0 doesn't, as the chip has the line low.
func TestAReadThatEndsEarly(t *testing.T) {
	for kind := 1; kind <= 10; kind++ {
		for bit := range 8 {
			for _, v := range []byte{0xff, 0x00, 0xa5, 0x5a} {
				data := with(filled(kind), 0, v, 0x33)
				for _, end := range []string{"1320", "023"} {
					b := newBus(t, kind, data)
					b.start()
					b.must(0xa1)
					b.bits(0xff, bit)
					b.run(end)
					ended := v>>(7-bit)&1 == 1
					if stopped := end == "023"; ended && stopped {
						if got := b.get(true); got != 0xff {
							t.Errorf("kind %d: behind a Stop it sends %x", kind, got)
						}
					} else if got := b.put(0xa0); ended && !got {
						t.Errorf("kind %d: behind a Start within %x it doesn't listen", kind, v)
					}
					b.compare()
				}
			}
		}
	}
}

// A byte that was written is read, by the pointer too, that stayed behind it.
func TestWhatWasWrittenIsRead(t *testing.T) {
	next := chance(3)
	for kind := 1; kind <= 10; kind++ {
		want := filled(kind)
		b := newBus(t, kind, want)
		for range 30 {
			at, l := next(len(want)), someBytes(next, 1+next(2*kinds[kind].page))
			b.save(at, l...)
			b.wait(Busy)
			for place, v := range paged(kind, at, l) {
				want[place] = v
			}
			from := next(len(want))
			b.to(from)
			b.start()
			b.must(opening(kind, from)[0] + 1)
			for i := range 20 {
				if got := b.get(i < 19); got != want[(from+i)%len(want)] {
					t.Errorf("kind %d: at %x is %x", kind, (from+i)%len(want), got)
				}
			}
			b.stop()
		}
		b.wantBytes(want)
	}
}

// P10.2: Cut

func TestCutInNumbers(t *testing.T) {
	old := counted(1, 128)
	b := newBus(t, 1, old)
	b.save(0x0e, 0x91, 0x92, 0x93) // the places 14, 15 and 8: rising 8, 14, 15
	for _, x := range []struct{ pick, want string }{
		{"", "\x09\x0f\x10"},
		{"a", "a\x0f\x10"},
		{"ab", "ab\x10"},
		{"abc", "abc"},
		{"abcd", "abc"},
		{"abcdefghijklmnop", "abc"},
	} {
		want := with(with(old, 8, x.want[0]), 14, x.want[1], x.want[2])
		if got := b.c.Cut([]byte(x.pick)); !bytes.Equal(got, want) {
			t.Errorf("Cut(%q) is %v", x.pick, got)
		}
	}
	if !bytes.Equal(b.c.Cut(nil), old) {
		t.Error("Cut of no picks isn't Bytes")
	}
}

// Cut changes nothing of the chip, whenever it is asked for; what waits is written as it was asked for.
func TestCutChangesNothing(t *testing.T) {
	for kind := 1; kind <= 10; kind++ {
		old := filled(kind)
		b := newBus(t, kind, old)
		b.each = func() { b.c.Cut([]byte{9, 8, 7}) }
		if kind > 5 {
			b.each = nil // of great chips at some steps alone
		}
		b.save(5, 0x91, 0x92)
		for range Busy {
			b.c.Cut([]byte{9, 8, 7})
			b.wantBytes(old)
			b.wait(1)
		}
		b.wantBytes(with(old, 5, 0x91, 0x92))
		if got := b.c.Cut([]byte{9, 8, 7}); !bytes.Equal(got, with(old, 5, 0x91, 0x92)) {
			t.Errorf("kind %d: where nothing waits a cut leaves %v", kind, got[:16])
		}
	}
}

// What is collected doesn't wait ahead of the Stop: power that fails leaves all bytes.
func TestCutAheadOfTheStop(t *testing.T) {
	for kind := 1; kind <= 10; kind++ {
		old := filled(kind)
		b := newBus(t, kind, old)
		b.to(5)
		for i := range 3 {
			b.must(byte(i))
			b.run("02")
			if !bytes.Equal(b.c.Cut([]byte("abcdef")), old) {
				t.Errorf("kind %d: cut behind %d bytes, some are apart", kind, i)
			}
			b.to(5)
		}
	}
}

// R1: steps of all sorts, in a row.
func TestManySteps(t *testing.T) {
	for step := range 8 {
		b := newBus(t, 3, filled(3))
		b.save(5, 1)
		text := fmt.Sprint(step)
		for range 1000 {
			b.run(text)
		}
		b.compare()
	}
}
