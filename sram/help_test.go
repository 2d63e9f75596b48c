package sram

import (
	"bytes"
	"math"
	"testing"

	"keepsake/api"
)

// bench is a chip, and a model that goes on beside it: whatever the chip answers is held against it.
type bench struct {
	t *testing.T
	c *Chip
	m *model
}

func newBench(t *testing.T, b []byte) *bench {
	t.Helper()
	return &bench{t: t, c: must(t, b), m: newModel(b)}
}

// must is a new chip with these bytes.
func must(t *testing.T, b []byte) *Chip {
	t.Helper()
	c, e := New(len(b)/64, b)
	if e != api.OK || c == nil {
		t.Fatalf("New of %d bytes is %v, %v", len(b), c, e)
	}
	return c
}

// open is a new chip with these bytes, that isn't locked.
func open(t *testing.T, b []byte) *Chip {
	t.Helper()
	c := must(t, b)
	c.Latch(0xa5)
	return c
}

// do has each done, and asks what a write answers, and whether it is locked then.
func (b *bench) do(l ...act) {
	b.t.Helper()
	for _, a := range l {
		if got, want := doTo(b.c, a), b.m.do(a); got != want {
			b.t.Fatalf("the last one of %v is %v, want %v", b.latest(), got, want)
		}
		b.wantLocked(b.m.locked())
	}
}

// doTo is what a write answers.
func doTo(c *Chip, a act) bool {
	if a.latch {
		c.Latch(a.value)
		return false
	}
	return c.Write(a.at, a.value)
}

// copy is a bench of a copy.
func (b *bench) copy() *bench {
	b.t.Helper()
	c := b.c.Copy()
	if c == nil || c == b.c {
		b.t.Fatalf("behind %v: Copy is the chip itself, or none", b.latest())
	}
	return &bench{t: b.t, c: c, m: b.m.copy()}
}

// compare holds against the model what isn't asked for behind each act.
func (b *bench) compare() {
	b.t.Helper()
	want := b.m.bytes()
	b.wantLocked(b.m.locked())
	b.wantBytes(want)
	for a, v := range want {
		b.wantRead(a, v)
	}
	for _, a := range addresses(len(want)) {
		b.wantRead(a, want[b.m.place(a)])
	}
}

func (b *bench) wantLocked(want bool) {
	b.t.Helper()
	if got := b.c.Locked(); got != want {
		b.t.Fatalf("behind %v: Locked is %v, want %v", b.latest(), got, want)
	}
}

func (b *bench) wantBytes(want []byte) {
	b.t.Helper()
	if !bytes.Equal(b.c.Bytes(), want) {
		b.t.Fatalf("behind %v: Bytes aren't as they should be", b.latest())
	}
}

func (b *bench) wantRead(a int, want byte) {
	b.t.Helper()
	if got := b.c.Read(a); got != want {
		b.t.Fatalf("behind %v: Read(%d) is %02x, want %02x", b.latest(), a, got, want)
	}
}

// latest is what was done last, and tells enough.
func (b *bench) latest() []act { return b.m.done[max(0, len(b.m.done)-40):] }

// wantChip asks for all that a chip answers.
func wantChip(t *testing.T, c *Chip, locked bool, want []byte) {
	t.Helper()
	if c.Locked() != locked || !bytes.Equal(c.Bytes(), want) {
		t.Fatalf("Locked is %v, want %v, or the bytes aren't as they should be", c.Locked(), locked)
	}
	for a, v := range want {
		if c.Read(a) != v {
			t.Fatalf("Read(%d) is %02x, want %02x", a, c.Read(a), v)
		}
	}
}

// addresses are some of a chip with n bytes: at its edges, beyond its bytes, and below 0.
func addresses(n int) []int {
	return []int{0, 1, 3, 63, n / 2, n - 1, n, n + 1, n + 3, 2*n - 1, 2 * n, 5*n + 3, 1<<16 + 7, 1<<32 + 9, 1 << 40, math.MaxInt - 1, math.MaxInt, -1, -2, -9, -n, 1 - n, -n - 1, math.MinInt, math.MinInt + 1}
}

// filled is the bytes of units, each unlike those near it, and those 64 places away.
func filled(units int) []byte {
	b := make([]byte, units*64)
	for i := range b {
		b[i] = byte(i*7 + i>>6*13 + i>>8*3 + 5)
	}
	return b
}

// with is bytes that have others from a place on.
func with(b []byte, at int, l ...byte) []byte {
	out := bytes.Clone(b)
	copy(out[at:], l)
	return out
}

// chance is numbers below n that look like chance, and are always the same of one seed.
func chance(seed uint64) func(n int) int {
	return func(n int) int {
		seed = seed*6364136223846793005 + 1442695040888963407
		return int(seed>>33) % n
	}
}

func someBytes(next func(int) int, n int) []byte {
	b := make([]byte, n)
	for i := range b {
		b[i] = byte(next(256))
	}
	return b
}
