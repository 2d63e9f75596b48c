package eeprom

import (
	"bytes"
	"slices"
	"strings"
	"testing"

	"keepsake/api"
)

// A step is told by a number: 0 both lines low, 1 the data alone high, 2 the clock alone high, 3 both high; 4 more, where wp is high.

// bus is a chip, its master, and a model that goes on beside it: whatever the chip answers is held against it.
type bus struct {
	t    *testing.T
	c    *Chip
	m    *model
	wp   bool
	each func() // if there is one, it is done behind each step
}

func newBus(t *testing.T, kind int, b []byte) *bus {
	t.Helper()
	c, e := New(kind, b)
	if e != api.OK || c == nil {
		t.Fatalf("New of kind %d and %d bytes is %v, %v", kind, len(b), c, e)
	}
	return &bus{t: t, c: c, m: newModel(kind, b)}
}

// step is the line. What takes longer to ask for is asked for where it may change.
func (b *bus) step(scl, sda bool) bool {
	b.t.Helper()
	was := b.m.left
	want := b.m.step(scl, sda, b.wp)
	got := b.c.Step(scl, sda, b.wp)
	if got != want || b.c.Left() != b.m.left || b.c.Pointer() != b.m.pointer {
		b.t.Fatalf("kind %d, behind a %s: the line, Left and Pointer are %v, %d, %d, want %v, %d, %d", b.m.kind, b.m.last, got, b.c.Left(), b.c.Pointer(), want, b.m.left, b.m.pointer)
	}
	if b.m.left != was && (b.m.left <= 1 || b.m.left >= Busy-1) {
		b.compare()
	}
	if b.each != nil {
		b.each()
	}
	return got
}

// compare holds what isn't asked for in each step against the model.
func (b *bus) compare() {
	b.t.Helper()
	if !bytes.Equal(b.c.Bytes(), b.m.bytes) {
		b.t.Fatalf("kind %d: Bytes aren't what is told", b.m.kind)
	}
	places, values := b.c.Waits()
	if at, v := b.m.waiting(); !slices.Equal(places, at) || !bytes.Equal(values, v) {
		b.t.Fatalf("kind %d: what waits is %v, %v, want %v, %v", b.m.kind, places, values, at, v)
	}
	for _, pick := range [][]byte{nil, {0x5a}, counted(101, len(places)), counted(51, len(places)+3)} {
		if !bytes.Equal(b.c.Cut(pick), b.m.cut(pick)) {
			b.t.Fatalf("kind %d: Cut(%v) isn't what is told", b.m.kind, pick)
		}
	}
}

// run is steps that a text tells, and the lines that they answer: 0 low, 1 high.
func (b *bus) run(text string) string {
	b.t.Helper()
	var out strings.Builder
	for _, x := range text {
		n := int(x - '0')
		wp := b.wp
		b.wp = n&4 != 0
		if b.step(n&2 != 0, n&1 != 0) {
			out.WriteByte('1')
		} else {
			out.WriteByte('0')
		}
		b.wp = wp
	}
	return out.String()
}

// start is behind whatever: the data is let go while the clock is low, and falls while it is high.
func (b *bus) start() {
	b.t.Helper()
	b.run(b.writes("01320"))
}

func (b *bus) stop() {
	b.t.Helper()
	b.run(b.writes("023"))
}

// writes is steps with the wp that the bus has.
func (b *bus) writes(text string) string {
	if !b.wp {
		return text
	}
	return protected(text)
}

// protected is the same steps with wp high.
func protected(text string) string {
	out := []byte(text)
	for i := range out {
		out[i] |= 4
	}
	return string(out)
}

// clock has one bit told, whoever tells it; it is the line while the clock is high.
func (b *bus) clock(bit bool) bool {
	b.t.Helper()
	b.step(false, bit)
	line := b.step(true, bit)
	b.step(false, bit)
	return line
}

// bits has the highest n bits of a byte told.
func (b *bus) bits(v byte, n int) {
	b.t.Helper()
	for k := range n {
		b.clock(v>>(7-k)&1 == 1)
	}
}

// put is whether a byte is acknowledged.
func (b *bus) put(v byte) bool {
	b.t.Helper()
	b.bits(v, 8)
	return !b.clock(true)
}

// get is a byte that the chip sends.
func (b *bus) get(acknowledged bool) byte {
	b.t.Helper()
	var v byte
	for range 8 {
		v <<= 1
		if b.clock(true) {
			v |= 1
		}
	}
	b.clock(!acknowledged)
	return v
}

// must has bytes told, all of which are to be acknowledged.
func (b *bus) must(l ...byte) {
	b.t.Helper()
	for i, v := range l {
		if !b.put(v) {
			b.t.Fatalf("kind %d: byte %d of %x isn't acknowledged", b.m.kind, i, l)
		}
	}
}

// to has a place told: the device's byte, and the address.
func (b *bus) to(at int) {
	b.t.Helper()
	b.start()
	b.must(opening(b.m.kind, at)...)
}

// save has bytes written, and doesn't wait for the chip.
func (b *bus) save(at int, l ...byte) {
	b.t.Helper()
	b.to(at)
	b.must(l...)
	b.stop()
}

// wait does nothing on the lines.
func (b *bus) wait(steps int) {
	b.t.Helper()
	for range steps {
		b.step(true, true)
	}
}

func (b *bus) wantPointer(want int) {
	b.t.Helper()
	if got := b.c.Pointer(); got != want {
		b.t.Errorf("kind %d: the pointer is %x, want %x", b.m.kind, got, want)
	}
}

func (b *bus) wantBytes(want []byte) {
	b.t.Helper()
	if got := b.c.Bytes(); !bytes.Equal(got, want) {
		b.t.Errorf("kind %d: Bytes aren't as they should be: %x", b.m.kind, got[:min(len(got), 16)])
	}
}

func (b *bus) wantWaits(left int, places []int, values []byte) {
	b.t.Helper()
	at, v := b.c.Waits()
	if b.c.Left() != left || !slices.Equal(at, places) || !bytes.Equal(v, values) {
		b.t.Errorf("kind %d: Left %d, and %v, %v wait; want %d, %v, %v", b.m.kind, b.c.Left(), at, v, left, places, values)
	}
}

// wantNothing asks that nothing waits, and that nothing was written.
func (b *bus) wantNothing(old []byte) {
	b.t.Helper()
	b.wantWaits(0, nil, nil)
	b.wait(2 * Busy)
	b.wantBytes(old)
}

// opening is the device's byte and the address's bytes of a place.
func opening(kind, at int) []byte {
	if kinds[kind].wide == 2 {
		return []byte{0xa0, byte(at >> 8), byte(at)}
	}
	return []byte{0xa0 + byte(at>>8<<1), byte(at)}
}

// bitsOf is the steps of a master that tells a byte's bits.
func bitsOf(v byte) string {
	text := ""
	for k := 7; k >= 0; k-- {
		text += []string{"020", "131"}[v>>k&1]
	}
	return text
}

// counted is the bytes from first on.
func counted(first byte, n int) []byte {
	b := make([]byte, n)
	for i := range b {
		b[i] = first + byte(i)
	}
	return b
}

// filled is a kind's bytes, each unlike those near it, and those 256 places away.
func filled(kind int) []byte {
	b := make([]byte, kinds[kind].bytes)
	for i := range b {
		b[i] = byte(i*7 + i>>8*13 + 5)
	}
	return b
}

// with is bytes that have others from a place on.
func with(b []byte, at int, l ...byte) []byte {
	out := bytes.Clone(b)
	copy(out[at:], l)
	return out
}

// chance is numbers below n that look like chance, and are always the same of one seed.
func chance(seed uint64) func(n int) int {
	return func(n int) int {
		seed = seed*6364136223846793005 + 1442695040888963407
		return int(seed>>33) % n
	}
}

func someBytes(next func(int) int, n int) []byte {
	b := make([]byte, n)
	for i := range b {
		b[i] = byte(next(256))
	}
	return b
}

// stretched has each level stay for one to four cycles.
func stretched(next func(int) int, text string) string {
	var b strings.Builder
	for i := range len(text) {
		b.WriteString(strings.Repeat(text[i:i+1], 1+next(4)))
	}
	return b.String()
}
