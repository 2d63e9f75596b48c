package slot

import (
	"bytes"
	"encoding/binary"
	"hash/crc32"
	"math"
	"slices"
	"testing"

	"keepsake/api"
	"keepsake/disk"
)

// inTable is a kind's bytes as chapter 3 has them, with 0 of no EEPROM.
func inTable(kind int) int {
	return [11]int{0, 128, 256, 512, 1024, 2048, 4096, 8192, 16384, 32768, 65536}[kind]
}

// total is how many bytes chips that can be have.
func total(g api.Geometry) int {
	return inTable(g.Eeprom) + g.Flash*256 + g.Sram*64
}

// spanOf counts a slot's sectors one by one: the head's, and one more as long as bytes are left.
func spanOf(size int, g api.Geometry) int {
	n := 1
	for left := total(g); left > 0; left -= size {
		n++
	}
	return n
}

// outside are numbers that aren't from 0 to most: next to the ends, far from them, and such whose lowest bits alone would be right.
func outside(most int) []int {
	out := []int{-1, -most, most + 1, 255, 256, math.MinInt, math.MaxInt}
	for _, shift := range []int{8, 32, 56, 58, 62} {
		out = append(out, 1<<shift+1, -(1<<shift)+1)
	}
	return out
}

// wrongOnes are chips that can't be: one part is wrong with others that may be, or all are.
func wrongOnes() []api.Geometry {
	out := []api.Geometry{{Eeprom: 11, Flash: 65, Sram: 129}, {Eeprom: -1, Flash: -1, Sram: -1}, {Flash: -1, Sram: 4}}
	for _, rest := range []api.Geometry{{}, {Eeprom: 1, Flash: 1, Sram: 1}} {
		for _, n := range outside(10) {
			out = append(out, api.Geometry{Eeprom: n, Flash: rest.Flash, Sram: rest.Sram})
		}
		for _, n := range outside(64) {
			out = append(out, api.Geometry{Eeprom: rest.Eeprom, Flash: n, Sram: rest.Sram})
		}
		for _, n := range outside(128) {
			out = append(out, api.Geometry{Eeprom: rest.Eeprom, Flash: rest.Flash, Sram: n})
		}
	}
	return out
}

// layout is a disk's Size, and chips.
type layout struct {
	size int
	g    api.Geometry
}

func (l layout) span() int { return spanOf(l.size, l.g) }

// layouts are such as differ in how the image ends in its last sector: there is no image, it ends where the sector does, or ahead of that.
func layouts() []layout {
	return []layout{
		{32, api.Geometry{}},
		{4096, api.Geometry{}},
		{32, api.Geometry{Sram: 1}},
		{64, api.Geometry{Sram: 1}},
		{63, api.Geometry{Sram: 1}},
		{65, api.Geometry{Sram: 1}},
		{64, api.Geometry{Eeprom: 1, Sram: 1}},
		{33, api.Geometry{Eeprom: 2}},
		{100, api.Geometry{Eeprom: 3, Flash: 2, Sram: 5}},
		{256, api.Geometry{Flash: 3}},
		{4096, api.Geometry{Eeprom: 6, Flash: 1}},
		{4095, api.Geometry{Eeprom: 6}},
	}
}

// noise is n bytes that look like chance, none of them 0, and are always the same of one seed.
func noise(n int, seed uint64) []byte {
	b := make([]byte, n)
	for i := range b {
		seed = seed*6364136223846793005 + 1442695040888963407
		b[i] = byte(seed>>33)%255 + 1
	}
	return b
}

// mixed tells numbers that look like chance and are always the same.
func mixed(seed uint64) func() uint64 {
	return func() uint64 {
		seed ^= seed << 13
		seed ^= seed >> 7
		seed ^= seed << 17
		return seed
	}
}

// parts are a head's, as they are laid, whether it can be or not.
type parts struct {
	magic               string
	version             byte
	eeprom, flash, sram byte
	length              uint32
	seq                 uint64
	sum                 uint32
}

// partsOf are those of a head that can be, for these chips and bytes.
func partsOf(g api.Geometry, seq uint64, b []byte) parts {
	return parts{"KEEP", 1, byte(g.Eeprom), byte(g.Flash), byte(g.Sram), uint32(total(g)), seq, crc32.ChecksumIEEE(b)}
}

// bytes are a head's, laid by the library, with a check sum that is right.
func (p parts) bytes() []byte {
	b := append([]byte(p.magic), p.version, p.eeprom, p.flash, p.sram)
	b = binary.LittleEndian.AppendUint32(b, p.length)
	b = binary.LittleEndian.AppendUint64(b, p.seq)
	b = binary.LittleEndian.AppendUint32(b, p.sum)
	return binary.LittleEndian.AppendUint32(b, crc32.ChecksumIEEE(b))
}

// noisy is a disk of that many sectors, full of noise that lasts.
func noisy(t *testing.T, sectors, size int) *disk.Disk {
	t.Helper()
	return opened(t, size, noise(sectors*size, 5))
}

func opened(t *testing.T, size int, b []byte) *disk.Disk {
	t.Helper()
	d, e := disk.Open(size, b)
	if e != api.OK {
		t.Fatalf("a disk of %d bytes in sectors of %d: %v", len(b), size, e)
	}
	return d
}

// laid is a disk of noise with both slots laid by hand: the head's bytes and the image's are laid over the noise, and what is behind them in their sectors stays noise.
func laid(t *testing.T, l layout, heads, images [2][]byte) *disk.Disk {
	t.Helper()
	b := noise(2*l.span()*l.size, 5)
	for which := range 2 {
		first := which * l.span() * l.size
		copy(b[first:], heads[which])
		copy(b[first+l.size:], images[which])
	}
	return opened(t, l.size, b)
}

// bothGood is a disk with two good slots, of unlike numbers and images.
func bothGood(t *testing.T, l layout) (*disk.Disk, [2]api.Slot) {
	t.Helper()
	var heads, images [2][]byte
	var want [2]api.Slot
	for which := range 2 {
		images[which] = noise(total(l.g), uint64(20+which))
		seq := uint64(0xf1e2d3c4b5a69788) + uint64(which)
		heads[which] = partsOf(l.g, seq, images[which]).bytes()
		want[which] = api.Slot{State: api.Good, Seq: seq, Image: images[which]}
	}
	return laid(t, l, heads, images), want
}

// view is what all sectors would be read as, found without an operation of the disk.
func view(d *disk.Disk) []byte {
	c := d.Copy()
	c.Crash(slices.Repeat([]api.Tear{{Kind: api.New}}, len(c.Unsynced())))
	return c.Bytes()
}

// untouched holds that a disk is what it was, with so many more operations.
func untouched(t *testing.T, what string, d, was *disk.Disk, ops int) {
	t.Helper()
	if d.Ops() != was.Ops()+ops {
		t.Errorf("%s: %d operations, want %d", what, d.Ops()-was.Ops(), ops)
	}
	if d.Writes() != was.Writes() || !bytes.Equal(d.Bytes(), was.Bytes()) || !bytes.Equal(view(d), view(was)) || !slices.Equal(d.Unsynced(), was.Unsynced()) {
		t.Errorf("%s: it wrote, or synced", what)
	}
}

// changed holds that just these sectors are cached now, that the disk would be read as those bytes, and that what lasts is as it was.
func changed(t *testing.T, what string, d, was *disk.Disk, sectors []int, now []byte) {
	t.Helper()
	if !bytes.Equal(d.Bytes(), was.Bytes()) {
		t.Errorf("%s: what lasts isn't what it was", what)
	}
	if !slices.Equal(d.Unsynced(), sectors) {
		t.Errorf("%s: cached are %v, want %v", what, d.Unsynced(), sectors)
	}
	if d.Writes() != was.Writes()+len(sectors) {
		t.Errorf("%s: %d writes, want %d", what, d.Writes()-was.Writes(), len(sectors))
	}
	if i := unlike(view(d), now); i >= 0 {
		t.Errorf("%s: the disk isn't as it must be from byte %d on (sector %d)", what, i, i/d.Size())
	}
}

// unlike is the first place where texts differ; -1, if there is none.
func unlike(a, b []byte) int {
	for i := range max(len(a), len(b)) {
		if i >= len(a) || i >= len(b) || a[i] != b[i] {
			return i
		}
	}
	return -1
}

// tells holds what Read tells of a slot against what it must be, and how many operations that takes.
func tells(t *testing.T, what string, d *disk.Disk, which int, g api.Geometry, want api.Slot, ops int) {
	t.Helper()
	was := d.Copy()
	got, e := Read(d, which, g)
	if e != api.OK {
		t.Errorf("%s: Read of slot %d: %v", what, which, e)
	}
	if got.State != want.State || got.Why != want.Why || got.Seq != want.Seq || !bytes.Equal(got.Image, want.Image) {
		t.Errorf("%s: Read of slot %d: state %d, %v, number %d, %d bytes, want state %d, %v, number %d, %d bytes", what, which, got.State, got.Why, got.Seq, len(got.Image), want.State, want.Why, want.Seq, len(want.Image))
	}
	untouched(t, what, d, was, ops)
}

// nothing holds that a slot is the zero value.
func nothing(t *testing.T, what string, s api.Slot) {
	t.Helper()
	if s.State != 0 || s.Why != api.OK || s.Seq != 0 || len(s.Image) != 0 {
		t.Errorf("%s: beside an error there is state %d, %v, number %d, %d bytes", what, s.State, s.Why, s.Seq, len(s.Image))
	}
}

func tell(t *testing.T, what string, got, want api.Errno) {
	t.Helper()
	if got != want {
		t.Errorf("%s: %v, want %v", what, got, want)
	}
}

// called is one of the calls that a disk is handed to, and the error it tells; Read must tell nothing beside one.
type called struct {
	name string
	call func(t *testing.T, d *disk.Disk, which int, g api.Geometry, b []byte) api.Errno
}

func calls() []called {
	return []called{
		{"Read", func(t *testing.T, d *disk.Disk, which int, g api.Geometry, b []byte) api.Errno {
			t.Helper()
			s, e := Read(d, which, g)
			if e != api.OK {
				nothing(t, "Read", s)
			}
			return e
		}},
		{"Data", func(t *testing.T, d *disk.Disk, which int, g api.Geometry, b []byte) api.Errno {
			return Data(d, which, g, b)
		}},
		{"Seal", func(t *testing.T, d *disk.Disk, which int, g api.Geometry, b []byte) api.Errno {
			return Seal(d, which, g, 7, b)
		}},
		{"Wipe", func(t *testing.T, d *disk.Disk, which int, g api.Geometry, b []byte) api.Errno {
			return Wipe(d, which, g)
		}},
	}
}
