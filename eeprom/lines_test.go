package eeprom

import (
	"bytes"
	"fmt"
	"slices"
	"strings"
	"testing"
)

// short is a byte's bits in as few steps as there can be: the clock low, and high.
func short(v byte) string {
	text := ""
	for k := 7; k >= 0; k-- {
		text += []string{"02", "13"}[v>>k&1]
	}
	return text
}

// past is steps that bring a chip of 128 bytes to something that it may do next, and what that is: how many bits were taken, or weren't told yet.
type past struct{ steps, does string }

func pasts() []past {
	device, address, data := "20"+short(0xa0)+"13", short(0x05)+"13", short(0x77)+"13"
	read, ones := "20"+short(0xa1)+"13", "13131313131313"
	busy := device + address + data + "023"
	threes := strings.Repeat("3", Busy)
	return []past{
		{"", "idles"},
		{"20" + short(0x55), "listens device 8"},
		{"20" + short(0x55) + "1", "idles"},
		{"2", "listens device 0"},
		{"20" + short(0xa0)[:8], "listens device 4"},
		{"20" + short(0xa0), "listens device 8"},
		{"20" + short(0xa0) + "0", "acknowledges address 8"},
		{device, "acknowledges address 8"},
		{device + "1", "listens address 0"},
		{device + "02", "listens address 1"},
		{device + short(0x05), "listens address 8"},
		{device + address, "acknowledges data 8"},
		{device + address + "0", "listens data 0"},
		{device + address + "02", "listens data 1"},
		{device + address + short(0x77)[:14], "listens data 7"},
		{device + address + short(0x77), "listens data 8"},
		{device + address + data, "acknowledges data 8"},
		{device + address + data + "1", "listens data 0"},
		{device + address + data + "02", "listens data 1"},
		{device + address + data + "13", "listens data 1"},
		{device + address + data + "0202", "listens data 2"},
		{device + address + data + short(0x78) + "130", "listens data 0"},
		{"20" + short(0xa1), "listens device 8"},
		{read, "acknowledges told 8"},
		{read + "1", "sends told 7"},
		{read + "13", "sends told 7"},
		{read + "131", "sends told 6"},
		{read + ones + "1", "sends told 0"},
		{read + ones + "13", "sends told 0"},
		{read + ones + "131", "asks told 0"},
		{read + ones + "1302", "asks told 0"},
		{read + ones + "1313", "idles"},
		{read + ones + "13020", "sends told 7"},
		{busy, "idles, busy 50"},
		{busy + threes[1:], "idles, busy 1"},
		{busy + threes, "idles"},
	}
}

// doing is what a model does next, in a past's words.
func (m *model) doing() string {
	switch {
	case m.does == "idles" && m.left > 0:
		return fmt.Sprint("idles, busy ", m.left)
	case m.does == "idles":
		return "idles"
	}
	return fmt.Sprint(m.does, " ", m.of, " ", len(m.bits))
}

// texts is all steps of n cycles, of those levels.
func texts(n int, levels string) []string {
	all := []string{""}
	for range n {
		var longer []string
		for _, text := range all {
			for _, x := range levels {
				longer = append(longer, text+string(x))
			}
		}
		all = longer
	}
	return all
}

func TestAllShortLinesBehindEachPast(t *testing.T) {
	lines := append(texts(6, "0123"), texts(4, "01234567")...)
	old := filled(1)
	for _, p := range pasts() {
		for _, text := range lines {
			b := newBus(t, 1, old)
			b.run(p.steps)
			if got := b.m.doing(); got != p.does {
				t.Fatalf("behind %s the chip %s, and should have been one that %s", p.steps, got, p.does)
			}
			b.run(text)
			b.run("00" + short(0x3c) + "0" + "13" + "023") // a byte more, and a Stop, tell what it was at
			b.compare()
			if t.Failed() {
				t.Fatalf("behind %s, and %s", p.steps, text)
			}
		}
	}
}

// mischief is one of the things that a master, or anybody, may do.
func mischief(b *bus, next func(int) int) {
	b.wp = next(8) == 0
	switch next(12) {
	case 0, 1:
		b.start()
	case 2:
		b.stop()
	case 3:
		b.start()
		b.put(opening(b.m.kind, next(len(b.m.bytes)))[0] + byte(next(2)))
	case 4:
		b.start()
		for _, v := range append(opening(b.m.kind, next(len(b.m.bytes))), someBytes(next, next(4))...) {
			b.put(v)
		}
	case 5:
		b.start()
		for _, v := range append(opening(b.m.kind, next(len(b.m.bytes))), someBytes(next, 1+next(40))...) {
			b.put(v)
		}
		b.wp = next(8) == 0
		b.stop()
	case 6:
		b.put(byte(next(256)))
	case 7:
		b.get(next(3) > 0)
	case 8:
		b.bits(byte(next(256)), next(8))
	case 9:
		b.wait(next(2 * Busy))
	default:
		for range next(12) {
			b.step(next(2) == 1, next(2) == 1)
		}
	}
}

func TestAnyLines(t *testing.T) {
	next := chance(11)
	for round := range 60 {
		kind := 1 + round%10
		b := newBus(t, kind, someBytes(next, kinds[kind].bytes))
		for range 200 {
			mischief(b, next)
		}
		b.compare()
	}
}

// Lines of which either stays as it was more often than not, and that aren't a master's at all.
func TestLinesOfChance(t *testing.T) {
	next := chance(12)
	for kind := 1; kind <= 10; kind++ {
		b := newBus(t, kind, filled(kind))
		now := 3
		for range 100000 {
			now ^= []int{0, 0, 1, 1, 2, 2, 3}[next(7)]
			b.step(now&2 != 0, now&1 != 0)
		}
		b.compare()
	}
}

// P10.3

// witness is what was seen of a chip, step by step; of the model it takes what the lines told, and no more.
type witness struct {
	b       *bus
	bytes   []byte
	places  []int
	values  []byte
	left    int
	started bool // there was a Start since the last Stop
	since   int  // how many steps ago what waits began to
	writes  int
}

func (w *witness) look() {
	b := w.b
	b.t.Helper()
	w.since++
	switch b.m.last {
	case "start":
		w.started = true
	case "stop":
		w.stopped()
		w.started = false
	}
	if left := b.c.Left(); left > w.left && b.m.last != "stop" {
		b.t.Error("it is busy without a Stop")
	}
	if now := b.c.Bytes(); !bytes.Equal(now, w.bytes) {
		w.written(now)
		w.bytes = now
	}
	w.places, w.values = b.c.Waits()
	w.left = b.c.Left()
	w.apart()
}

// stopped notes when what waits began to.
func (w *witness) stopped() {
	if w.b.c.Left() > w.left {
		w.since = 0
		if !w.started {
			w.b.t.Error("something waits without a Start")
		}
	}
}

// written asks that just what waited has changed, some steps behind its Stop.
func (w *witness) written(now []byte) {
	if w.since != Busy || w.left != 1 {
		w.b.t.Errorf("bytes change %d steps behind the Stop", w.since)
	}
	want := bytes.Clone(w.bytes)
	for i, at := range w.places {
		want[at] = w.values[i]
	}
	if !bytes.Equal(now, want) {
		w.b.t.Error("other bytes change than those that waited, or to others")
	}
	w.writes++
}

// apart asks that what waits is in one page, and that a cut leaves no other places apart.
func (w *witness) apart() {
	page := kinds[w.b.m.kind].page
	if len(w.places) != len(w.values) || !slices.IsSorted(w.places) || len(slices.Compact(slices.Clone(w.places))) != len(w.places) {
		w.b.t.Errorf("the places %v and values %v wait", w.places, w.values)
	}
	for _, at := range w.places {
		if at/page != w.places[0]/page || at < 0 || at >= len(w.bytes) {
			w.b.t.Errorf("the places %v that wait aren't in one page", w.places)
		}
	}
	if (len(w.places) == 0) != (w.left == 0) {
		w.b.t.Errorf("%d steps are left, and %v wait", w.left, w.places)
	}
	cut := w.b.c.Cut(counted(byte(w.left), len(w.places)+1))
	if len(cut) != len(w.bytes) {
		w.b.t.Fatal("a cut leaves", len(cut), "bytes")
	}
	for at := range cut {
		if _, waits := slices.BinarySearch(w.places, at); !waits && cut[at] != w.bytes[at] {
			w.b.t.Errorf("cut, the place %d is apart", at)
		}
	}
}

func TestWhatFollowsOfAnyLines(t *testing.T) {
	next := chance(13)
	for kind := 1; kind <= 5; kind++ {
		writes := 0
		for range 4 {
			b := newBus(t, kind, someBytes(next, kinds[kind].bytes))
			w := &witness{b: b, bytes: b.c.Bytes()}
			b.each = w.look
			for range 120 {
				mischief(b, next)
			}
			writes += w.writes
		}
		if writes < 10 {
			t.Errorf("kind %d: there were %d writes, too few to tell", kind, writes)
		}
	}
}

func TestWhatFollowsOfGreatChips(t *testing.T) {
	next := chance(14)
	for kind := 6; kind <= 10; kind++ {
		b := newBus(t, kind, someBytes(next, kinds[kind].bytes))
		w := &witness{b: b, bytes: b.c.Bytes()}
		b.each = w.look
		at := len(b.m.bytes) - 3
		b.save(at, someBytes(next, kinds[kind].page+2)...)
		b.wait(Busy)
		if w.writes != 1 {
			t.Errorf("kind %d: there were %d writes", kind, w.writes)
		}
	}
}

// Whatever is clocked without a Start writes nothing.
func TestNothingIsWrittenWithoutAStart(t *testing.T) {
	old := filled(1)
	b := newBus(t, 1, old)
	b.run("0")
	for range 3 {
		for _, v := range []byte{0xa0, 0x05, 0x77} {
			b.put(v)
		}
		b.stop()
		b.wantNothing(old)
		b.run("0")
	}
}

// R4, R5

func TestWhatIsHandedInStaysAsItIs(t *testing.T) {
	all := counted(0, 140)
	data, pick := all[6:134], []byte("pick|behind")
	b := newBus(t, 1, data)
	b.save(5, 0x91, 0x92)
	b.c.Cut(pick[:4])
	b.wait(Busy)
	if !bytes.Equal(all, counted(0, 140)) || string(pick) != "pick|behind" {
		t.Errorf("what was handed in is now %v, %q", all, pick)
	}
}

func TestAChipHasBytesOfItsOwn(t *testing.T) {
	data := filled(1)
	b := newBus(t, 1, data)
	clear(data)
	b.wantBytes(filled(1))
	b.start()
	b.must(0xa1)
	if got := b.get(false); got != filled(1)[0] {
		t.Errorf("behind a change of what was handed in it sends %x", got)
	}
}

func TestWhatIsAnsweredIsMemoryOfItsOwn(t *testing.T) {
	old := filled(1)
	b := newBus(t, 1, old)
	b.save(5, 0x91, 0x92, 0x93)
	for range 2 {
		places, values := b.c.Waits()
		all, none, some := b.c.Bytes(), b.c.Cut(nil), b.c.Cut([]byte{7})
		for _, l := range [][]byte{values, all, none, some} {
			clear(l)
			_ = append(l, "more"...)
		}
		clear(places)
		_ = append(places, 1, 2, 3)
		b.wantWaits(50, []int{5, 6, 7}, []byte{0x91, 0x92, 0x93})
		b.wantBytes(old)
		b.compare()
	}
	b.wait(Busy)
	b.wantBytes(with(old, 5, 0x91, 0x92, 0x93))
	clear(b.c.Bytes())
	clear(b.c.Cut(nil))
	b.wantBytes(with(old, 5, 0x91, 0x92, 0x93))
}

// What was answered stays as it was, whatever the chip does later.
func TestAnswersStayAsTheyWere(t *testing.T) {
	old := filled(1)
	b := newBus(t, 1, old)
	b.save(5, 0x91, 0x92)
	all, cut := b.c.Bytes(), b.c.Cut(nil)
	places, values := b.c.Waits()
	b.wait(Busy)
	b.save(5, 0x81, 0x82)
	b.wait(Busy)
	if !bytes.Equal(all, old) || !bytes.Equal(cut, old) || !slices.Equal(places, []int{5, 6}) || !bytes.Equal(values, []byte{0x91, 0x92}) {
		t.Errorf("answers are now %v, %v, %v, %v", all, cut, places, values)
	}
}

func TestPicksOfACutArePickedOnce(t *testing.T) {
	old := filled(1)
	b := newBus(t, 1, old)
	b.save(5, 0x91, 0x92)
	pick := []byte{1, 2}
	cut := b.c.Cut(pick)
	clear(pick)
	if !bytes.Equal(cut, with(old, 5, 1, 2)) || !bytes.Equal(b.c.Cut([]byte{}), old) || !bytes.Equal(b.c.Cut(nil), old) {
		t.Error("a cut is", cut)
	}
}

// R6: chips beside each other, of the same kind and bytes too.
func TestChipsBesideEachOther(t *testing.T) {
	next := chance(15)
	var all []*bus
	data := filled(3)
	for range 20 {
		all = append(all, newBus(t, 3, data))
	}
	for range 4000 {
		mischief(all[next(len(all))], next)
	}
	for _, b := range all {
		b.compare()
	}
}

func TestTheSameStepsAreAnsweredTheSame(t *testing.T) {
	next := chance(16)
	for kind := 1; kind <= 10; kind++ {
		a, b := newBus(t, kind, filled(kind)), newBus(t, kind, filled(kind))
		for range 100 {
			seed := uint64(next(1000000))
			mischief(a, chance(seed))
			mischief(b, chance(seed))
		}
		b.wantBytes(a.c.Bytes())
		places, values := a.c.Waits()
		b.wantWaits(a.c.Left(), places, values)
		b.wantPointer(a.c.Pointer())
	}
}
