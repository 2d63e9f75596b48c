package slot

import (
	"bytes"
	"fmt"
	"math"
	"slices"
	"testing"

	"keepsake/api"
	"keepsake/disk"
)

func TestNumbersOfTheFace(t *testing.T) {
	if Least != 32 {
		t.Errorf("Least %d", Least)
	}
}

// P6.1

// spans holds Span and Room against how many sectors a slot must have.
func spans(t *testing.T, size int, g api.Geometry, want int) {
	t.Helper()
	if got := Span(size, g); got != want {
		t.Errorf("Span(%d, %+v) = %d, want %d", size, g, got, want)
	}
	if got := Room(size, g); got != 2*want {
		t.Errorf("Room(%d, %+v) = %d, want %d", size, g, got, 2*want)
	}
}

func TestSpanOfKnownChips(t *testing.T) {
	for _, x := range []struct{ size, eeprom, flash, sram, want int }{
		{32, 0, 0, 1, 3},
		{64, 1, 0, 1, 4},
		{32, 0, 0, 0, 1},
		{4096, 0, 0, 0, 1},
		{32, 10, 64, 128, 2817},
		{4096, 10, 64, 128, 23},
		{4096, 10, 0, 0, 17},
	} {
		spans(t, x.size, api.Geometry{Eeprom: x.eeprom, Flash: x.flash, Sram: x.sram}, x.want)
	}
}

func TestSpanOfEverySize(t *testing.T) {
	for _, g := range []api.Geometry{{}, {Sram: 1}, {Eeprom: 1}, {Flash: 1}, {Eeprom: 3, Flash: 2, Sram: 5}, {Eeprom: 6}, {Flash: 16, Sram: 1}, {Eeprom: 10, Flash: 64, Sram: 128}} {
		for size := 32; size <= 4096; size++ {
			spans(t, size, g, spanOf(size, g))
		}
	}
}

func TestSpanOfEveryRightGeometry(t *testing.T) {
	for kind := range 11 {
		for sectors := range 65 {
			for units := range 129 {
				g := api.Geometry{Eeprom: kind, Flash: sectors, Sram: units}
				spans(t, 256, g, spanOf(256, g))
				spans(t, 4096, g, spanOf(4096, g))
			}
		}
	}
}

func TestSpanOfOneSectorJustAndOneByteMore(t *testing.T) {
	for _, x := range []struct {
		g    api.Geometry
		many int
	}{{api.Geometry{Sram: 1}, 64}, {api.Geometry{Eeprom: 1}, 128}, {api.Geometry{Flash: 1}, 256}, {api.Geometry{Eeprom: 1, Flash: 1, Sram: 1}, 448}, {api.Geometry{Sram: 63}, 4032}} {
		spans(t, x.many+1, x.g, 2)
		spans(t, x.many, x.g, 2)
		spans(t, x.many-1, x.g, 3)
	}
	spans(t, 4096, api.Geometry{Eeprom: 6}, 2)
	spans(t, 4095, api.Geometry{Eeprom: 6}, 3)
	spans(t, 4096, api.Geometry{Eeprom: 6, Sram: 1}, 3)
	spans(t, 33, api.Geometry{Sram: 1}, 3)
	spans(t, 32, api.Geometry{Sram: 1}, 3)
}

// sizesThatMayNotBe lie next to the ends, far from them, or have lowest bits that alone would be right.
func sizesThatMayNotBe() []int {
	return []int{31, 30, 16, 1, 0, -1, -31, -32, -64, -4096, 4097, 4098, 8192, 1<<16 + 64, 1<<32 + 64, 1<<62 + 64, math.MaxInt, math.MinInt, math.MinInt + 64}
}

func TestSpanOfSizesThatMayNotBe(t *testing.T) {
	for _, size := range sizesThatMayNotBe() {
		for _, g := range []api.Geometry{{}, {Sram: 1}, {Eeprom: 10, Flash: 64, Sram: 128}} {
			spans(t, size, g, 0)
		}
	}
}

func TestSpanOfChipsThatCanNotBe(t *testing.T) {
	for _, g := range wrongOnes() {
		for _, size := range append(sizesThatMayNotBe(), 32, 33, 64, 4095, 4096) {
			spans(t, size, g, 0)
		}
	}
}

// Whether a call can be made

// refused holds that each call tells that error, whatever comes next of the disk, and does nothing with it.
func refused(t *testing.T, what string, d *disk.Disk, which int, g api.Geometry, b []byte, want api.Errno) {
	t.Helper()
	for _, x := range calls() {
		for _, planned := range []bool{false, true} {
			c := d.Copy()
			if planned {
				c.Fail(c.Ops() + 1)
			}
			was := c.Copy()
			tell(t, fmt.Sprintf("%s: %s of slot %d, %+v", what, x.name, which, g), x.call(t, c, which, g, b), want)
			untouched(t, what+": "+x.name, c, was, 0)
		}
	}
}

func TestChipsThatCanNotBeAreRefused(t *testing.T) {
	roomy := noisy(t, 64, 64)
	for _, g := range wrongOnes() {
		refused(t, "much room", roomy, 0, g, nil, api.ErrGeometry)
		refused(t, "much room", roomy, 1, g, noise(192, 1), api.ErrGeometry)
	}
}

func TestSlotsThatAreNotThereAreRefused(t *testing.T) {
	g := api.Geometry{Eeprom: 1, Sram: 1}
	d := noisy(t, 64, 64)
	for _, which := range []int{-1, -2, 2, 3, 4, 255, 256, 257, 1 << 32, 1<<32 + 1, 1 << 62, 1 << 63 >> 2, math.MaxInt, math.MinInt, math.MinInt + 1} {
		refused(t, "no such slot", d, which, g, noise(192, 1), api.ErrArg)
		refused(t, "no such slot", d, which, api.Geometry{}, nil, api.ErrArg)
	}
}

func TestSectorsBelowLeastAreRefused(t *testing.T) {
	for size := 1; size < 32; size++ {
		for which := range 2 {
			refused(t, fmt.Sprint("sectors of ", size), noisy(t, 200, size), which, api.Geometry{Eeprom: 1, Sram: 1}, noise(192, 1), api.ErrArg)
			refused(t, fmt.Sprint("sectors of ", size), noisy(t, 200, size), which, api.Geometry{}, nil, api.ErrArg)
		}
	}
}

// made holds that each call can be made.
func made(t *testing.T, what string, d *disk.Disk, which int, g api.Geometry) {
	t.Helper()
	for _, x := range calls() {
		tell(t, what+": "+x.name, x.call(t, d.Copy(), which, g, noise(total(g), 1)), api.OK)
	}
}

func TestDisksWithASectorTooFewAreRefused(t *testing.T) {
	for _, l := range layouts() {
		room := 2 * l.span()
		for which := range 2 {
			for _, sectors := range []int{0, 1, l.span(), room - 1} {
				if sectors < room {
					refused(t, fmt.Sprintf("%d of %d sectors", sectors, room), noisy(t, sectors, l.size), which, l.g, noise(total(l.g), 1), api.ErrFull)
				}
			}
			for _, more := range []int{0, 1, 2, 3, room} {
				made(t, fmt.Sprintf("%d more than %d sectors", more, room), noisy(t, room+more, l.size), which, l.g)
			}
		}
	}
}

func TestChipsThatHardlyADiskHasRoomFor(t *testing.T) {
	all := api.Geometry{Eeprom: 10, Flash: 64, Sram: 128}
	for which := range 2 {
		refused(t, "no disk can have it", noisy(t, 4096, 32), which, all, noise(90112, 1), api.ErrFull)
		refused(t, "one too few", noisy(t, 2817, 64), which, all, noise(90112, 1), api.ErrFull)
		made(t, "just as many", noisy(t, 2818, 64), which, all)
		refused(t, "one too few of the greatest", noisy(t, 45, 4096), which, all, noise(90112, 1), api.ErrFull)
		made(t, "just as many of the greatest", noisy(t, 46, 4096), which, all)
	}
}

// TestTheFirstFaultIsTold has all sets of faults at once, in the order in which they are told.
func TestTheFirstFaultIsTold(t *testing.T) {
	const wrongChips, wrongSlot, wrongSize, wrongRoom, wrongLength, planned = 1, 2, 4, 8, 16, 32
	for faults := range 64 {
		g, which, size, sectors := api.Geometry{Eeprom: 1, Sram: 1}, 1, 64, 8
		if faults&wrongSize != 0 {
			size, sectors = 31, 16
		}
		if faults&wrongRoom != 0 {
			sectors = 7
		}
		if faults&wrongSlot != 0 {
			which = 2
		}
		b := noise(192, 1)
		if faults&wrongLength != 0 {
			b = b[:191]
		}
		if faults&wrongChips != 0 {
			g.Flash = 65
		}
		for _, x := range calls() {
			want := api.OK
			takesBytes := x.name == "Data" || x.name == "Seal"
			switch {
			case faults&wrongChips != 0:
				want = api.ErrGeometry
			case faults&(wrongSlot|wrongSize) != 0:
				want = api.ErrArg
			case faults&wrongRoom != 0:
				want = api.ErrFull
			case faults&wrongLength != 0 && takesBytes:
				want = api.ErrArg
			case faults&planned != 0:
				want = api.ErrDisk
			}
			d := noisy(t, sectors, size)
			if faults&planned != 0 {
				d.Fail(1)
			}
			was := d.Copy()
			what := fmt.Sprintf("faults %06b: %s", faults, x.name)
			tell(t, what, x.call(t, d, which, g, b), want)
			switch want {
			case api.OK:
			case api.ErrDisk:
				untouched(t, what, d, was, 1)
			default:
				untouched(t, what, d, was, 0)
			}
		}
	}
}

// P6.2

// headIs holds what Read tells of each slot, if its head's sector begins with b: one operation, whatever the image is, and though the next one is planned to fail.
func headIs(t *testing.T, what string, l layout, b []byte, want api.Slot) {
	t.Helper()
	for which := range 2 {
		good, _ := bothGood(t, l)
		all := good.Bytes()
		copy(all[which*l.span()*l.size:], b)
		d := opened(t, l.size, all)
		d.Fail(2)
		tells(t, what, d, which, l.g, want, 1)
	}
}

func isBad(why api.Errno) api.Slot { return api.Slot{State: api.Bad, Why: why} }

func TestReadOfAHeadThatIsNotDecoded(t *testing.T) {
	for _, l := range layouts() {
		right := partsOf(l.g, 9, noise(total(l.g), 20))
		for at := range 4 {
			b := right.bytes()
			b[at] ^= 1
			headIs(t, "another beginning", l, b, isBad(api.ErrMagic))
		}
		p := right
		p.magic = "PEEK"
		headIs(t, "another beginning with its check sum", l, p.bytes(), isBad(api.ErrMagic))
		headIs(t, "bytes 0", l, make([]byte, l.size), isBad(api.ErrMagic))
		for _, v := range []byte{0, 2, 255} {
			p := right
			p.version = v
			headIs(t, "another version", l, p.bytes(), isBad(api.ErrVersion))
		}
		for at := 5; at < 28; at++ {
			for bit := range 8 {
				b := right.bytes()
				b[at] ^= 1 << bit
				headIs(t, fmt.Sprintf("bit %d of byte %d is another one", bit, at), l, b, isBad(api.ErrSum))
			}
		}
		for _, change := range []func(p *parts){
			func(p *parts) { p.length++ },
			func(p *parts) { p.length-- },
			func(p *parts) { p.length += 1 << 31 },
			func(p *parts) { p.eeprom = 11 },
			func(p *parts) { p.flash = 65 },
			func(p *parts) { p.sram = 129 },
			func(p *parts) { p.sram++ },
			func(p *parts) { p.eeprom, p.length = 11, p.length-uint32(inTable(l.g.Eeprom)) },
		} {
			p := right
			change(&p)
			headIs(t, "a head that can't be", l, p.bytes(), isBad(api.ErrGeometry))
		}
	}
}

func TestTheFirstReasonOfABadHeadIsTold(t *testing.T) {
	l := layout{64, api.Geometry{Eeprom: 1, Sram: 1}}
	p := parts{"KEEQ", 2, 11, 0, 1, 3, 1, 0}
	broken := func(p parts) []byte {
		b := p.bytes()
		b[27] ^= 128
		return b
	}
	headIs(t, "all is wrong", l, broken(p), isBad(api.ErrMagic))
	p.magic = "KEEP"
	headIs(t, "all but the beginning", l, broken(p), isBad(api.ErrVersion))
	p.version = 1
	headIs(t, "check sum and chips", l, broken(p), isBad(api.ErrSum))
	headIs(t, "chips alone", l, p.bytes(), isBad(api.ErrGeometry))
	alien := partsOf(api.Geometry{Sram: 3}, 1, nil)
	headIs(t, "other chips with a wrong check sum", l, broken(alien), isBad(api.ErrSum))
	alien.length++
	headIs(t, "other chips of another Length", l, alien.bytes(), isBad(api.ErrGeometry))
}

func TestReadOfOtherChips(t *testing.T) {
	alien := api.Slot{State: api.Alien}
	for _, l := range layouts() {
		for _, g := range []api.Geometry{{}, {Eeprom: 2}, {Flash: 1}, {Sram: 4}, {Sram: 1}, {Eeprom: 1}, {Eeprom: 10, Flash: 64, Sram: 128},
			{Eeprom: l.g.Eeprom ^ 1, Flash: l.g.Flash, Sram: l.g.Sram}, {Eeprom: l.g.Eeprom, Flash: l.g.Flash ^ 1, Sram: l.g.Sram}, {Eeprom: l.g.Eeprom, Flash: l.g.Flash, Sram: l.g.Sram ^ 1}} {
			if g == l.g {
				continue
			}
			headIs(t, fmt.Sprintf("chips %+v in place of %+v", g, l.g), l, partsOf(g, 3, noise(total(g), 1)).bytes(), alien)
			headIs(t, "other chips, and another sum", l, partsOf(g, math.MaxUint64, nil).bytes(), alien)
		}
	}
	same := layout{64, api.Geometry{Flash: 1}} // other chips of as many bytes, with the sum of the image that is there
	for _, g := range []api.Geometry{{Eeprom: 2}, {Sram: 4}, {Eeprom: 1, Sram: 2}} {
		headIs(t, "other chips with just that image", same, partsOf(g, 3, noise(256, 20)).bytes(), alien)
	}
}

func TestReadOfAGoodSlot(t *testing.T) {
	for _, l := range layouts() {
		d, want := bothGood(t, l)
		for which := range 2 {
			tells(t, "good", d, which, l.g, want[which], l.span())
		}
	}
}

func TestReadOfEachNumber(t *testing.T) {
	l := layout{64, api.Geometry{Eeprom: 1, Sram: 1}}
	b := noise(192, 3)
	seqs := []uint64{0, 1, 2, math.MaxUint64, math.MaxUint64 - 1, 1 << 63, 0x0102030405060708}
	for shift := range 64 {
		seqs = append(seqs, 1<<shift)
	}
	for _, seq := range seqs {
		h := partsOf(l.g, seq, b).bytes()
		d := laid(t, l, [2][]byte{h, h}, [2][]byte{b, b})
		for which := range 2 {
			tells(t, "number", d, which, l.g, api.Slot{State: api.Good, Seq: seq, Image: b}, 4)
		}
	}
}

// TestReadTakesSlot1BehindTheSpan: how many sectors the disk has beside both slots plays no part.
func TestReadTakesSlot1BehindTheSpan(t *testing.T) {
	for _, l := range layouts() {
		d, want := bothGood(t, l)
		for more := 1; more <= 9; more++ {
			wider := opened(t, l.size, append(d.Bytes(), noise(more*l.size, 8)...))
			for which := range 2 {
				tells(t, "a wider disk", wider, which, l.g, want[which], l.span())
			}
		}
	}
}

func TestReadOfAnImageThatIsNotTheHeads(t *testing.T) {
	for _, l := range layouts() {
		many := total(l.g)
		for _, at := range []int{0, 1, l.size - 1, l.size, many / 2, many - 2, many - 1} {
			if at < 0 || at >= many {
				continue
			}
			for which := range 2 {
				d, want := bothGood(t, l)
				all := d.Bytes()
				all[(which*l.span()+1)*l.size+at] ^= 16
				d = opened(t, l.size, all)
				tells(t, fmt.Sprint("another byte at ", at), d, which, l.g, isBad(api.ErrSum), l.span())
				tells(t, "the other slot", d, 1-which, l.g, want[1-which], l.span())
			}
		}
	}
}

func TestReadOfAHeadWithAnotherSum(t *testing.T) {
	for _, l := range layouts() {
		b := noise(total(l.g), 20)
		for bit := range 32 {
			p := partsOf(l.g, 5, b)
			p.sum ^= 1 << bit
			d := laid(t, l, [2][]byte{p.bytes(), p.bytes()}, [2][]byte{b, b})
			for which := range 2 {
				tells(t, fmt.Sprint("another bit of Sum: ", bit), d, which, l.g, isBad(api.ErrSum), l.span())
			}
		}
	}
}

// TestReadTakesSectorsInOrder: an image whose sectors changed places has all its bytes, and is none.
func TestReadTakesSectorsInOrder(t *testing.T) {
	l := layout{64, api.Geometry{Eeprom: 1, Sram: 1}}
	for _, swapped := range [][2]int{{0, 1}, {1, 2}, {0, 2}} {
		b := noise(192, 3)
		h := partsOf(l.g, 1, b).bytes()
		x, y := b[swapped[0]*64:][:64], b[swapped[1]*64:][:64]
		for i := range x {
			x[i], y[i] = y[i], x[i]
		}
		d := laid(t, l, [2][]byte{h, h}, [2][]byte{b, b})
		for which := range 2 {
			tells(t, "swapped", d, which, l.g, isBad(api.ErrSum), 4)
		}
	}
}

func TestReadWithEachOperationFailing(t *testing.T) {
	for _, l := range layouts() {
		for which := range 2 {
			for n := 1; n <= l.span(); n++ {
				d, want := bothGood(t, l)
				d.Fail(n)
				was := d.Copy()
				s, e := Read(d, which, l.g)
				what := fmt.Sprintf("operation %d of %d fails", n, l.span())
				tell(t, what, e, api.ErrDisk)
				nothing(t, what, s)
				untouched(t, what, d, was, n)
				tells(t, "once more", d, which, l.g, want[which], l.span())
			}
			d, want := bothGood(t, l)
			d.Fail(l.span() + 1)
			tells(t, "the one behind it fails", d, which, l.g, want[which], l.span())
		}
	}
}

// TestReadOfAWrongImageWithEachOperationFailing: that a sector can't be read is told ahead of a check sum.
func TestReadOfAWrongImageWithEachOperationFailing(t *testing.T) {
	l := layout{64, api.Geometry{Eeprom: 1, Sram: 1}}
	h := partsOf(l.g, 1, noise(192, 1)).bytes()
	for n := 1; n <= 4; n++ {
		d := laid(t, l, [2][]byte{h, h}, [2][]byte{})
		d.Fail(n)
		s, e := Read(d, 1, l.g)
		tell(t, "a wrong image", e, api.ErrDisk)
		nothing(t, "a wrong image", s)
	}
}

// TestReadTakesWhatIsCached, ahead of what lasts.
func TestReadTakesWhatIsCached(t *testing.T) {
	for _, l := range layouts() {
		d, want := bothGood(t, l)
		for which := range 2 {
			first := which * l.span()
			b := noise(total(l.g), 77)
			sectors := slices.Concat(partsOf(l.g, 4, b).bytes(), noise(l.size-28, 1), b, noise((l.span()-1)*l.size-len(b), 2))
			for i := range l.span() {
				tell(t, "Write", d.Write(first+i, sectors[i*l.size:(i+1)*l.size]), api.OK)
			}
			tells(t, "cached", d, which, l.g, api.Slot{State: api.Good, Seq: 4, Image: b}, l.span())
			torn := d.Copy()
			torn.Crash(nil)
			tells(t, "lost", torn, which, l.g, want[which], l.span())
		}
	}
}

func TestWhatReadAnswersIsItsOwn(t *testing.T) {
	l := layout{64, api.Geometry{Eeprom: 1, Sram: 1}}
	d, want := bothGood(t, l)
	was := d.Copy()
	for which := range 2 {
		s, _ := Read(d, which, l.g)
		r, _ := Read(d, which, l.g)
		_ = append(s.Image, 1, 2, 3)
		clear(s.Image)
		if !bytes.Equal(r.Image, want[which].Image) {
			t.Error("two answers share memory")
		}
		tells(t, "changed", d, which, l.g, want[which], 4)
	}
	if !bytes.Equal(view(d), view(was)) {
		t.Error("what was answered is the disk's")
	}
}

// P6.3

// wrongLengths are how many bytes an image mustn't have.
func wrongLengths(many int) []int {
	var out []int
	for _, n := range []int{0, 1, many - 1, many + 1, many - 64, many + 64, 2 * many, many + 256} {
		if n >= 0 && n != many {
			out = append(out, n)
		}
	}
	return out
}

func TestImagesOfAnotherLengthAreRefused(t *testing.T) {
	for _, l := range layouts() {
		for which := range 2 {
			for _, n := range wrongLengths(total(l.g)) {
				for _, planned := range []bool{false, true} {
					d := noisy(t, 2*l.span(), l.size)
					if planned {
						d.Fail(1)
					}
					was := d.Copy()
					what := fmt.Sprintf("%d bytes in place of %d", n, total(l.g))
					tell(t, what+": Data", Data(d, which, l.g, noise(n, 1)), api.ErrArg)
					tell(t, what+": Seal", Seal(d, which, l.g, 1, noise(n, 1)), api.ErrArg)
					untouched(t, what, d, was, 0)
				}
			}
		}
	}
}

// over is a disk's bytes with others laid over them, from a sector on.
func over(d *disk.Disk, first int, b []byte) []byte {
	all := view(d)
	copy(all[first*d.Size():], b)
	return all
}

// rising are n numbers from first on.
func rising(first, n int) []int {
	var l []int
	for i := range n {
		l = append(l, first+i)
	}
	return l
}

// filled is b with bytes 0 behind it, up to whole sectors.
func filled(b []byte, sectors, size int) []byte {
	return append(bytes.Clone(b), make([]byte, sectors*size-len(b))...)
}

func TestWhatDataWrites(t *testing.T) {
	for _, l := range layouts() {
		for which := range 2 {
			d := noisy(t, 2*l.span()+3, l.size)
			was := d.Copy()
			b := noise(total(l.g), 31)
			first, many := which*l.span()+1, l.span()-1
			tell(t, "Data", Data(d, which, l.g, b), api.OK)
			changed(t, "Data", d, was, rising(first, many), over(was, first, filled(b, many, l.size)))
			if d.Ops() != many {
				t.Errorf("Data: %d operations, want %d", d.Ops(), many)
			}
		}
	}
}

func TestDataWithEachWriteFailing(t *testing.T) {
	for _, l := range layouts() {
		for which := range 2 {
			first, many := which*l.span()+1, l.span()-1
			for n := 1; n <= many+1; n++ {
				d := noisy(t, 2*l.span(), l.size)
				d.Fail(n)
				was := d.Copy()
				b := noise(total(l.g), 31)
				want, done, ops := api.ErrDisk, n-1, n
				if n > many {
					want, done, ops = api.OK, many, many
				}
				what := fmt.Sprintf("write %d of %d fails", n, many)
				tell(t, what, Data(d, which, l.g, b), want)
				changed(t, what, d, was, rising(first, done), over(was, first, filled(b, many, l.size)[:done*l.size]))
				if d.Ops() != ops {
					t.Errorf("%s: %d operations, want %d", what, d.Ops(), ops)
				}
			}
		}
	}
}

func TestDataOfNoChipsDoesNothing(t *testing.T) {
	for which := range 2 {
		for _, b := range [][]byte{nil, {}} {
			d := noisy(t, 2, 32)
			d.Fail(1)
			was := d.Copy()
			tell(t, "Data", Data(d, which, api.Geometry{}, b), api.OK)
			untouched(t, "Data", d, was, 0)
		}
	}
}

func TestWhatSealWrites(t *testing.T) {
	for _, l := range layouts() {
		for which := range 2 {
			for _, seq := range []uint64{0, 1, 0xf1e2d3c4b5a69788, math.MaxUint64} {
				d := noisy(t, 2*l.span()+3, l.size)
				was := d.Copy()
				b := noise(total(l.g), 31)
				first := which * l.span()
				tell(t, "Seal", Seal(d, which, l.g, seq, b), api.OK)
				changed(t, "Seal", d, was, []int{first}, over(was, first, filled(partsOf(l.g, seq, b).bytes(), 1, l.size)))
				if d.Ops() != 1 {
					t.Errorf("Seal: %d operations", d.Ops())
				}
			}
		}
	}
}

func TestSealOfAKnownHead(t *testing.T) {
	d := noisy(t, 2, 32)
	tell(t, "Seal", Seal(d, 1, api.Geometry{}, 1, nil), api.OK)
	want := "KEEP\x01\x00\x00\x00\x00\x00\x00\x00\x01\x00\x00\x00\x00\x00\x00\x00\x00\x00\x00\x00\x47\x0b\xeb\x51\x00\x00\x00\x00"
	if got := string(view(d)[32:]); got != want {
		t.Errorf("Seal: %q, want %q", got, want)
	}
}

func TestWhatWipeWrites(t *testing.T) {
	for _, l := range layouts() {
		for which := range 2 {
			d := noisy(t, 2*l.span()+3, l.size)
			was := d.Copy()
			first := which * l.span()
			tell(t, "Wipe", Wipe(d, which, l.g), api.OK)
			changed(t, "Wipe", d, was, []int{first}, over(was, first, make([]byte, l.size)))
			if d.Ops() != 1 {
				t.Errorf("Wipe: %d operations", d.Ops())
			}
		}
	}
}

func TestSealAndWipeThatFail(t *testing.T) {
	for _, l := range layouts() {
		for which := range 2 {
			d := noisy(t, 2*l.span(), l.size)
			d.Fail(1)
			d.Fail(2)
			was := d.Copy()
			tell(t, "Seal", Seal(d, which, l.g, 1, noise(total(l.g), 1)), api.ErrDisk)
			untouched(t, "Seal", d, was, 1)
			tell(t, "Wipe", Wipe(d, which, l.g), api.ErrDisk)
			untouched(t, "Wipe", d, was, 2)
		}
	}
}

// TestNoneOfThemSyncs: what was cached ahead of them still is, and a crash loses all of it.
func TestNoneOfThemSyncs(t *testing.T) {
	for _, l := range layouts() {
		for which := range 2 {
			last := 2 * l.span()
			d := noisy(t, last+1, l.size)
			was := d.Bytes()
			tell(t, "Write", d.Write(last, noise(l.size, 12)), api.OK)
			for _, x := range calls() {
				tell(t, x.name, x.call(t, d, which, l.g, noise(total(l.g), 1)), api.OK)
				if !slices.Contains(d.Unsynced(), last) || !bytes.Equal(d.Bytes(), was) {
					t.Errorf("%s synced", x.name)
				}
			}
			d.Crash(nil)
			if !bytes.Equal(view(d), was) {
				t.Error("a crash left something of what wasn't synced")
			}
		}
	}
}

func TestWhatIsHandedInIsNotKeptOrChanged(t *testing.T) {
	l := layout{63, api.Geometry{Sram: 1}}
	for which := range 2 {
		all := noise(200, 4)
		was := bytes.Clone(all)
		b := all[:64]
		d := noisy(t, 2*l.span(), l.size)
		tell(t, "Data", Data(d, which, l.g, b), api.OK)
		tell(t, "Seal", Seal(d, which, l.g, 1, b), api.OK)
		if !bytes.Equal(all, was) {
			t.Error("what was handed in, or what lies behind it, was changed")
		}
		clear(all)
		tells(t, "changed later", d, which, l.g, api.Slot{State: api.Good, Seq: 1, Image: was[:64]}, 3)
	}
}

// P6.4

// laysAndSeals is a commit without a sync.
func laysAndSeals(t *testing.T, d *disk.Disk, which int, g api.Geometry, seq uint64, b []byte) {
	t.Helper()
	tell(t, "Data", Data(d, which, g, b), api.OK)
	tell(t, "Seal", Seal(d, which, g, seq, b), api.OK)
}

func TestWhatWasLaidAndSealedIsGoodTillItIsWiped(t *testing.T) {
	for _, l := range layouts() {
		for which := range 2 {
			d := noisy(t, 2*l.span(), l.size)
			b := noise(total(l.g), 6)
			good := api.Slot{State: api.Good, Seq: 77, Image: b}
			laysAndSeals(t, d, which, l.g, 77, b)
			tells(t, "cached", d, which, l.g, good, l.span())
			tell(t, "Sync", d.Sync(), api.OK)
			tells(t, "synced", d, which, l.g, good, l.span())
			tells(t, "of the lasting bytes", opened(t, l.size, d.Bytes()), which, l.g, good, l.span())
			tell(t, "Wipe", Wipe(d, which, l.g), api.OK)
			tells(t, "wiped, cached", d, which, l.g, isBad(api.ErrMagic), 1)
			lost := d.Copy()
			lost.Crash(nil)
			tells(t, "a wipe that was lost", lost, which, l.g, good, l.span())
			tell(t, "Sync", d.Sync(), api.OK)
			tells(t, "wiped, synced", d, which, l.g, isBad(api.ErrMagic), 1)
			tell(t, "Seal", Seal(d, which, l.g, 78, b), api.OK)
			good.Seq = 78
			tells(t, "sealed again", d, which, l.g, good, l.span())
		}
	}
}

func TestWhatWasLaidButNotSealedIsNotGood(t *testing.T) {
	for _, l := range layouts() {
		if total(l.g) == 0 {
			continue
		}
		for which := range 2 {
			d, _ := bothGood(t, l)
			b := noise(total(l.g), 6)
			tell(t, "Data", Data(d, which, l.g, b), api.OK)
			tells(t, "laid below an older head", d, which, l.g, isBad(api.ErrSum), l.span())
			tell(t, "Seal", Seal(d, which, l.g, 5, noise(total(l.g), 7)), api.OK)
			tells(t, "sealed with another one's sum", d, which, l.g, isBad(api.ErrSum), l.span())
		}
	}
}

// slotOf is a slot's bytes, of all bytes of a disk.
func slotOf(all []byte, l layout, which int) []byte {
	return all[which*l.span()*l.size:][:l.span()*l.size]
}

// TestTheOtherSlotStays: whatever is done with one slot, with each operation failing in turn, and whatever is torn of it then.
func TestTheOtherSlotStays(t *testing.T) {
	for _, l := range layouts() {
		for which := range 2 {
			for n := range l.span() + 4 {
				d, want := bothGood(t, l)
				was := d.Bytes()
				d.Fail(n)
				b := noise(total(l.g), 6)
				Data(d, which, l.g, b)
				Seal(d, which, l.g, 99, b)
				Wipe(d, which, l.g)
				for _, tear := range []api.Tear{{Kind: api.Old}, {Kind: api.New}, {Kind: api.Junk, Bytes: noise(l.size, 13)}} {
					torn := d.Copy()
					torn.Crash(slices.Repeat([]api.Tear{tear}, 2*l.span()))
					for _, x := range []*disk.Disk{d.Copy(), torn} {
						if !bytes.Equal(slotOf(view(x), l, 1-which), slotOf(was, l, 1-which)) {
							t.Errorf("%+v: slot %d was changed by what was done with the other one (operation %d failed)", l, 1-which, n)
						}
						if x.Ops() >= n { // else the planned failure would be the Read's
							tells(t, "the other slot", x, 1-which, l.g, want[1-which], l.span())
						}
					}
				}
			}
		}
	}
}

func TestBothSlotsHaveTheirOwn(t *testing.T) {
	for _, l := range layouts() {
		for _, order := range [][2]int{{0, 1}, {1, 0}} {
			d := noisy(t, 2*l.span(), l.size)
			for k, which := range order {
				laysAndSeals(t, d, which, l.g, uint64(k+1), noise(total(l.g), uint64(k)))
			}
			for k, which := range order {
				tells(t, "both", d, which, l.g, api.Slot{State: api.Good, Seq: uint64(k + 1), Image: noise(total(l.g), uint64(k))}, l.span())
			}
			tell(t, "Wipe", Wipe(d, order[0], l.g), api.OK)
			tells(t, "wiped", d, order[0], l.g, isBad(api.ErrMagic), 1)
			tells(t, "not wiped", d, order[1], l.g, api.Slot{State: api.Good, Seq: 2, Image: noise(total(l.g), 1)}, l.span())
		}
	}
}

func TestTheGreatestChipsThereAndBack(t *testing.T) {
	l := layout{64, api.Geometry{Eeprom: 10, Flash: 64, Sram: 128}}
	d := noisy(t, 2818, 64)
	for which := range 2 {
		b := noise(90112, uint64(which))
		laysAndSeals(t, d, which, l.g, uint64(which), b)
	}
	for which := range 2 {
		tells(t, "all chips", d, which, l.g, api.Slot{State: api.Good, Seq: uint64(which), Image: noise(90112, uint64(which))}, 1409)
	}
}
