package shadow

import (
	"bytes"
	"encoding/binary"
	"hash/crc32"
	"math"
	"slices"
	"testing"

	"keepsake/api"
	"keepsake/disk"
)

// inTable is a kind's bytes as chapter 3 has them, with 0 of no EEPROM.
func inTable(kind int) int {
	return [11]int{0, 128, 256, 512, 1024, 2048, 4096, 8192, 16384, 32768, 65536}[kind]
}

// total is how many bytes chips that can be have.
func total(g api.Geometry) int {
	return inTable(g.Eeprom) + g.Flash*256 + g.Sram*64
}

// layout is a disk's Size, and chips.
type layout struct {
	size int
	g    api.Geometry
}

// span counts a slot's sectors one by one: the head's, and one more as long as bytes are left.
func (l layout) span() int {
	n := 1
	for left := total(l.g); left > 0; left -= l.size {
		n++
	}
	return n
}

// layouts are such as differ in how the image ends in its last sector: there is no image, it ends where the sector does, or ahead of that.
func layouts() []layout {
	return []layout{
		{32, api.Geometry{}},
		{4096, api.Geometry{}},
		{32, api.Geometry{Sram: 1}},
		{64, api.Geometry{Sram: 1}},
		{63, api.Geometry{Sram: 1}},
		{65, api.Geometry{Sram: 1}},
		{64, api.Geometry{Eeprom: 1, Sram: 1}},
		{33, api.Geometry{Eeprom: 2}},
		{100, api.Geometry{Eeprom: 3, Flash: 2, Sram: 5}},
		{256, api.Geometry{Flash: 3}},
		{4096, api.Geometry{Eeprom: 6, Flash: 1}},
	}
}

// withImages are those of them whose chips have bytes: of the others there is one image only.
func withImages() []layout {
	return slices.DeleteFunc(layouts(), func(l layout) bool { return total(l.g) == 0 })
}

// outside are numbers that aren't from 0 to most: next to the ends, far from them, and such whose lowest bits alone would be right.
func outside(most int) []int {
	out := []int{-1, -most, most + 1, 255, 256, math.MinInt, math.MaxInt}
	for _, shift := range []int{8, 32, 56, 58, 62} {
		out = append(out, 1<<shift+1, -(1<<shift)+1)
	}
	return out
}

// wrongOnes are chips that can't be: one part is wrong with others that may be, or all are.
func wrongOnes() []api.Geometry {
	out := []api.Geometry{{Eeprom: 11, Flash: 65, Sram: 129}, {Eeprom: -1, Flash: -1, Sram: -1}, {Flash: -1, Sram: 4}}
	for _, rest := range []api.Geometry{{}, {Eeprom: 1, Flash: 1, Sram: 1}} {
		for _, n := range outside(10) {
			out = append(out, api.Geometry{Eeprom: n, Flash: rest.Flash, Sram: rest.Sram})
		}
		for _, n := range outside(64) {
			out = append(out, api.Geometry{Eeprom: rest.Eeprom, Flash: n, Sram: rest.Sram})
		}
		for _, n := range outside(128) {
			out = append(out, api.Geometry{Eeprom: rest.Eeprom, Flash: rest.Flash, Sram: n})
		}
	}
	return out
}

// noise is n bytes that look like chance, none of them 0, and are always the same of one seed.
func noise(n int, seed uint64) []byte {
	b := make([]byte, n)
	for i := range b {
		seed = seed*6364136223846793005 + 1442695040888963407
		b[i] = byte(seed>>33)%255 + 1
	}
	return b
}

// mixed tells numbers that look like chance and are always the same.
func mixed(seed uint64) func() uint64 {
	return func() uint64 {
		seed ^= seed << 13
		seed ^= seed >> 7
		seed ^= seed << 17
		return seed
	}
}

// factory is a new cartridge's image.
func factory(g api.Geometry) []byte {
	b := bytes.Repeat([]byte{0xff}, inTable(g.Eeprom)+g.Flash*256)
	return append(b, make([]byte, g.Sram*64)...)
}

// headOf is a head's bytes, laid by the library.
func headOf(g api.Geometry, seq uint64, b []byte) []byte {
	h := append([]byte("KEEP"), 1, byte(g.Eeprom), byte(g.Flash), byte(g.Sram))
	h = binary.LittleEndian.AppendUint32(h, uint32(total(g)))
	h = binary.LittleEndian.AppendUint64(h, seq)
	h = binary.LittleEndian.AppendUint32(h, crc32.ChecksumIEEE(b))
	return summed(h)
}

// summed is a head's bytes with their check sum behind them.
func summed(h []byte) []byte {
	return binary.LittleEndian.AppendUint32(h, crc32.ChecksumIEEE(h))
}

// filled is b with bytes 0 behind it, up to whole sectors.
func filled(b []byte, sectors, size int) []byte {
	return append(bytes.Clone(b), make([]byte, sectors*size-len(b))...)
}

func opened(t *testing.T, size int, b []byte) *disk.Disk {
	t.Helper()
	d, e := disk.Open(size, b)
	if e != api.OK {
		t.Fatalf("a disk of %d bytes in sectors of %d: %v", len(b), size, e)
	}
	return d
}

// noisy is a disk of that many sectors, full of noise: some of it lasts, and every third sector is cached, so that a sync is seen.
func noisy(t *testing.T, sectors, size int) *disk.Disk {
	t.Helper()
	d := opened(t, size, noise(sectors*size, 5))
	for i := 0; i < sectors; i += 3 {
		tell(t, "Write", d.Write(i, noise(size, uint64(i+100))), api.OK)
	}
	return d
}

// formatted is a disk with just enough sectors, and its shadow.
func formatted(t *testing.T, l layout) (*disk.Disk, *Shadow) {
	t.Helper()
	d := noisy(t, 2*l.span(), l.size)
	tell(t, "Format", Format(d, l.g), api.OK)
	return d, open(t, d, l.g)
}

// open is a shadow that must be there.
func open(t *testing.T, d *disk.Disk, g api.Geometry) *Shadow {
	t.Helper()
	s, e := Open(d, g)
	if e != api.OK || s == nil {
		t.Fatalf("Open: %v", e)
	}
	return s
}

// current is what a shadow must tell of itself.
type current struct {
	image []byte
	seq   uint64
	which int
}

func tells(t *testing.T, what string, s *Shadow, want current, stale bool) {
	t.Helper()
	if s.Seq() != want.seq || s.Which() != want.which || s.Stale() != stale {
		t.Errorf("%s: number %d, slot %d, stale %v, want number %d, slot %d, stale %v", what, s.Seq(), s.Which(), s.Stale(), want.seq, want.which, stale)
	}
	if !bytes.Equal(s.Image(), want.image) {
		t.Errorf("%s: another image, of %d bytes, than must be, of %d", what, len(s.Image()), len(want.image))
	}
}

func tell(t *testing.T, what string, got, want api.Errno) {
	t.Helper()
	if got != want {
		t.Errorf("%s: %v, want %v", what, got, want)
	}
}

// view is what all sectors would be read as, found without an operation of the disk.
func view(d *disk.Disk) []byte {
	c := d.Copy()
	c.Crash(slices.Repeat([]api.Tear{{Kind: api.New}}, len(c.Unsynced())))
	return c.Bytes()
}

// step is an operation that changes a disk: a sector is written, or all are synced.
type step struct {
	sync  bool
	i     int
	bytes []byte
}

func synced() step { return step{sync: true} }

// written are a step for each sector that some bytes are laid in, in order.
func written(first, size int, b []byte) []step {
	var out []step
	for part := range slices.Chunk(b, size) {
		out = append(out, step{i: first + len(out), bytes: part})
	}
	return out
}

// formatSteps are what Format does, one behind the other.
func formatSteps(l layout) []step {
	gone := make([]byte, l.size)
	wiped := slices.Concat(written(0, l.size, gone), written(l.span(), l.size, gone), []step{synced()})
	return append(wiped, putSteps(l, 0, 1, factory(l.g))...)
}

// putSteps are what a Commit does, of such an image in such a slot.
func putSteps(l layout, which int, seq uint64, b []byte) []step {
	first := which * l.span()
	data := written(first+1, l.size, filled(b, l.span()-1, l.size))
	head := written(first, l.size, filled(headOf(l.g, seq, b), 1, l.size))
	return slices.Concat(data, []step{synced()}, head, []step{synced()})
}

// follow does steps with a disk like another one, that none is planned to fail of.
func follow(t *testing.T, was *disk.Disk, l []step) *disk.Disk {
	t.Helper()
	d := was.Copy()
	for _, s := range l {
		if s.sync {
			tell(t, "Sync", d.Sync(), api.OK)
		} else {
			tell(t, "Write", d.Write(s.i, s.bytes), api.OK)
		}
	}
	return d
}

// asBehind holds that a disk is what another one is behind some steps, with so many operations more than that had ahead of them.
func asBehind(t *testing.T, what string, d, was *disk.Disk, l []step, ops int) {
	t.Helper()
	want := follow(t, was, l)
	if d.Ops() != was.Ops()+ops {
		t.Errorf("%s: %d operations, want %d", what, d.Ops()-was.Ops(), ops)
	}
	if d.Writes() != want.Writes() {
		t.Errorf("%s: %d writes, want %d", what, d.Writes()-was.Writes(), want.Writes()-was.Writes())
	}
	if !slices.Equal(d.Unsynced(), want.Unsynced()) {
		t.Errorf("%s: cached are %v, want %v", what, d.Unsynced(), want.Unsynced())
	}
	if i := unlike(d.Bytes(), want.Bytes()); i >= 0 {
		t.Errorf("%s: what lasts isn't as it must be from byte %d on (sector %d)", what, i, i/d.Size())
	}
	if i := unlike(view(d), view(want)); i >= 0 {
		t.Errorf("%s: what is cached isn't as it must be from byte %d on (sector %d)", what, i, i/d.Size())
	}
}

// untouched holds that nothing was done with a disk.
func untouched(t *testing.T, what string, d, was *disk.Disk) {
	t.Helper()
	asBehind(t, what, d, was, nil, 0)
}

// unlike is the first place where texts differ; -1, if there is none.
func unlike(a, b []byte) int {
	for i := range max(len(a), len(b)) {
		if i >= len(a) || i >= len(b) || a[i] != b[i] {
			return i
		}
	}
	return -1
}
