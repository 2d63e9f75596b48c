package flash

import (
	"bytes"
	"slices"
	"testing"

	"keepsake/api"
)

// bench is a chip, and a model that goes on beside it: whatever the chip answers is held against it.
type bench struct {
	t    *testing.T
	c    *Chip
	m    *model
	done []put // every write so far
}

func newBench(t *testing.T, b []byte) *bench {
	t.Helper()
	return &bench{t: t, c: must(t, b), m: newModel(b)}
}

// must is a new chip with these bytes.
func must(t *testing.T, b []byte) *Chip {
	t.Helper()
	c, e := New(len(b)/256, b)
	if e != api.OK || c == nil {
		t.Fatalf("New of %d bytes is %v, %v", len(b), c, e)
	}
	return c
}

// writes has bytes written, each to its address.
func (b *bench) writes(l ...put) {
	b.t.Helper()
	for _, p := range l {
		b.c.Write(p.at, p.value)
		b.m.write(p.at, p.value)
		b.done = append(b.done, p)
		b.wantState()
	}
}

func (b *bench) write(at int, v byte) {
	b.t.Helper()
	b.writes(put{at, v})
}

func (b *bench) ticks(n int) {
	b.t.Helper()
	for range n {
		b.c.Tick()
		b.m.tick()
		b.wantState()
	}
}

// read is what both tell.
func (b *bench) read(a int) byte {
	b.t.Helper()
	got, want := b.c.Read(a), b.m.read(a)
	if got != want {
		b.t.Fatalf("behind %v: Read(%x) is %02x, want %02x", b.done, a, got, want)
	}
	return got
}

func (b *bench) wantState() {
	b.t.Helper()
	if b.c.Left() != b.m.left || b.c.Waits() != b.m.waits() {
		b.t.Fatalf("behind %v: Left is %d, and Waits %v, want %d, %v", b.done, b.c.Left(), b.c.Waits(), b.m.left, b.m.waits())
	}
}

// compare holds against the model what isn't asked for behind each write.
func (b *bench) compare() {
	b.t.Helper()
	b.wantState()
	if !bytes.Equal(b.c.Bytes(), b.m.bytes) {
		b.t.Fatalf("behind %v: Bytes aren't what is told", b.done)
	}
	many := b.m.many
	for _, pick := range [][]byte{nil, {0x5a}, counted(77, many-1), counted(78, many), counted(79, many+3)} {
		if !bytes.Equal(b.c.Cut(pick), b.m.cut(pick)) {
			b.t.Fatalf("behind %v: Cut of %d bytes isn't what is told", b.done, len(pick))
		}
	}
	for _, a := range []int{0, 1, 7, 7 + 256, len(b.m.bytes) - 1, len(b.m.bytes), -1} {
		b.read(a)
	}
}

// wait has it do all that it is busy with.
func (b *bench) wait() {
	b.t.Helper()
	b.ticks(b.m.left)
	b.compare()
}

func (b *bench) wantLeft(want int) {
	b.t.Helper()
	if got := b.c.Left(); got != want {
		b.t.Errorf("behind %v: Left is %d, want %d", b.done, got, want)
	}
}

func (b *bench) wantWaits(want api.Wait) {
	b.t.Helper()
	if got := b.c.Waits(); got != want {
		b.t.Errorf("behind %v: Waits is %v, want %v", b.done, got, want)
	}
}

func (b *bench) wantBytes(want []byte) {
	b.t.Helper()
	if !bytes.Equal(b.c.Bytes(), want) {
		b.t.Errorf("behind %v: Bytes aren't as they should be", b.done)
	}
}

func (b *bench) wantRead(a int, want byte) {
	b.t.Helper()
	if got := b.read(a); got != want {
		b.t.Errorf("behind %v: Read(%x) is %02x, want %02x", b.done, a, got, want)
	}
}

// wantName asks that it identifies itself.
func (b *bench) wantName() {
	b.t.Helper()
	b.wantRead(0, 0xbf)
	b.wantRead(1, byte(len(b.m.bytes)/256))
}

// wantNothing asks that it isn't busy, that nothing was written, and that nothing is by waiting.
func (b *bench) wantNothing(old []byte) {
	b.t.Helper()
	b.wantLeft(0)
	b.wantWaits(api.Wait{})
	b.ticks(2 * ChipBusy)
	b.wantBytes(old)
	for a := range 256 {
		if b.read(a) != old[a] {
			b.t.Fatalf("behind %v: Read(%x) is %02x, want %02x", b.done, a, b.read(a), old[a])
		}
	}
}

// The writes of each sequence; a new list each time.

func keyed(behind ...put) []put { return append([]put{{0x55, 0xaa}, {0xaa, 0x55}}, behind...) }

func programs(at int, v byte) []put { return keyed(put{0x55, 0xa0}, put{at, v}) }

func identifies() []put { return keyed(put{0x55, 0x90}) }

func erases(last put) []put { return keyed(append([]put{{0x55, 0x80}}, keyed(last)...)...) }

func erasesSector(at int) []put { return erases(put{at, 0x30}) }

func erasesAll() []put { return erases(put{0x55, 0x10}) }

// whole is a sequence's writes, what it is for, and how long it is busy then.
type whole struct {
	does   string
	writes []put
	busy   int
}

func wholes() []whole {
	return []whole{
		{"program", programs(7, 0x0f), 10},
		{"program f0", programs(7, 0xf0), 10},
		{"program at a command's address", programs(0x55, 0x0f), 10},
		{"erase a sector", erasesSector(0x107), 100},
		{"erase the sector of a command's address", erasesSector(0x155), 100},
		{"erase all", erasesAll(), 200},
		{"identify", identifies(), 0},
	}
}

// some are writes that mean something somewhere, and some that mean nothing.
func some() []put {
	l := []put{{0x55, 0x55}, {0xaa, 0xaa}, {0x54, 0xaa}, {0xab, 0x55}, {-0x55, 0xaa}, {-0xaa, 0x55}, {7, 0x0f}, {-1, 0}, {1 << 40, 0xff}}
	for _, v := range []byte{0xaa, 0x55, 0xa0, 0x80, 0x90, 0x30, 0x10, 0xf0} {
		l = append(l, put{0x55, v}, put{0xaa, v}, put{0x155, v}, put{0x3aa, v}, put{7, v})
	}
	return l
}

// probes are writes that tell what a chip would go on with: what is left of each sequence, from each of its writes on.
func probes() [][]put {
	l := [][]put{nil}
	for _, w := range wholes() {
		for i := range w.writes {
			l = append(l, w.writes[i:])
		}
	}
	return l
}

// counted is the bytes from first on; none, if there are fewer than none.
func counted(first byte, n int) []byte {
	b := make([]byte, max(n, 0))
	for i := range b {
		b[i] = first + byte(i)
	}
	return b
}

// filled is the bytes of sectors, each unlike those near it, and those 256 places away.
func filled(sectors int) []byte {
	b := make([]byte, sectors*256)
	for i := range b {
		b[i] = byte(i*7 + i>>8*13 + 5)
	}
	return b
}

// with is bytes that have others from a place on.
func with(b []byte, at int, l ...byte) []byte {
	out := bytes.Clone(b)
	copy(out[at:], l)
	return out
}

// ones are n bytes ff.
func ones(n int) []byte { return bytes.Repeat([]byte{0xff}, n) }

// changed is a list with another write in the place of one.
func changed(l []put, i int, other put) []put {
	out := slices.Clone(l)
	out[i] = other
	return out
}

// chance is numbers below n that look like chance, and are always the same of one seed.
func chance(seed uint64) func(n int) int {
	return func(n int) int {
		seed = seed*6364136223846793005 + 1442695040888963407
		return int(seed>>33) % n
	}
}

func someBytes(next func(int) int, n int) []byte {
	b := make([]byte, n)
	for i := range b {
		b[i] = byte(next(256))
	}
	return b
}
