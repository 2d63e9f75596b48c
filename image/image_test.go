package image

import (
	"bytes"
	"math"
	"slices"
	"testing"

	"keepsake/api"
)

// inTable is a kind's bytes as chapter 3 has them, with 0 of no EEPROM.
func inTable(kind int) int {
	return [11]int{0, 128, 256, 512, 1024, 2048, 4096, 8192, 16384, 32768, 65536}[kind]
}

// parts are how many bytes each chip has, of chips that can be.
func parts(g api.Geometry) [3]int {
	return [3]int{inTable(g.Eeprom), g.Flash * 256, g.Sram * 64}
}

func sum(n [3]int) int { return n[0] + n[1] + n[2] }

// rightOnes are chips that can be: each kind and number alone, and the ends of each with the ends of the others.
func rightOnes() []api.Geometry {
	var out []api.Geometry
	for n := range 129 {
		out = append(out, api.Geometry{Sram: n})
		if n <= 64 {
			out = append(out, api.Geometry{Flash: n})
		}
		if n <= 10 {
			out = append(out, api.Geometry{Eeprom: n})
		}
	}
	for _, kind := range []int{0, 1, 2, 3, 9, 10} {
		for _, sectors := range []int{0, 1, 2, 63, 64} {
			for _, units := range []int{0, 1, 2, 127, 128} {
				out = append(out, api.Geometry{Eeprom: kind, Flash: sectors, Sram: units})
			}
		}
	}
	return out
}

// outside are numbers that aren't from 0 to most: next to the ends, far from them, and such whose lowest bits alone would be right.
func outside(most int) []int {
	out := []int{-1, -2, -most, most + 1, most + 2, 255, 256, math.MinInt, math.MinInt + 1, math.MaxInt, math.MaxInt - 1}
	for _, shift := range []int{8, 16, 31, 32, 56, 58, 62} {
		out = append(out, 1<<shift, 1<<shift+1, -(1 << shift), -(1<<shift)+1)
	}
	return out
}

// wrongOnes are chips that can't be: one part is wrong with others that may be, or all are.
func wrongOnes() []api.Geometry {
	out := []api.Geometry{
		{Eeprom: 11, Flash: 65, Sram: 129},
		{Eeprom: -1, Flash: -1, Sram: -1},
		{Flash: -1, Sram: 4},
		{Flash: 1, Sram: -4},
	}
	for _, rest := range []api.Geometry{{}, {Eeprom: 1, Flash: 1, Sram: 1}, {Eeprom: 10, Flash: 64, Sram: 128}} {
		for _, n := range outside(10) {
			out = append(out, api.Geometry{Eeprom: n, Flash: rest.Flash, Sram: rest.Sram})
		}
		for _, n := range outside(64) {
			out = append(out, api.Geometry{Eeprom: rest.Eeprom, Flash: n, Sram: rest.Sram})
		}
		for _, n := range outside(128) {
			out = append(out, api.Geometry{Eeprom: rest.Eeprom, Flash: rest.Flash, Sram: n})
		}
	}
	return out
}

// seemsRight is how many bytes a chip of n pieces might be thought to have, were it not looked at; 0, where that is too many for a test.
func seemsRight(n, each int) int {
	if n < 0 || n > 256 {
		return 0
	}
	return n * each
}

// noise is n bytes that look like chance, none of them 0, and are always the same of one seed.
func noise(n int, seed uint64) []byte {
	b := make([]byte, n)
	for i := range b {
		seed = seed*6364136223846793005 + 1442695040888963407
		b[i] = byte(seed>>33)%255 + 1
	}
	return b
}

// chips is noise for each chip.
func chips(g api.Geometry) (eeprom, flash, sram []byte) {
	n := parts(g)
	return noise(n[0], 1), noise(n[1], 2), noise(n[2], 3)
}

// within is noise of n bytes, with other bytes behind it that its capacity reaches.
func within(n int) (b, all []byte) {
	all = noise(n+50, 9)
	return all[:n], all
}

// same holds an answer without an error against the bytes it must be.
func same(t *testing.T, what string, got []byte, e api.Errno, want []byte) {
	t.Helper()
	if e != api.OK || len(got) != len(want) {
		t.Errorf("%s: %d bytes, %v, want %d bytes", what, len(got), e, len(want))
		return
	}
	for i := range want {
		if got[i] != want[i] {
			t.Errorf("%s: %d at %d, want %d", what, got[i], i, want[i])
			return
		}
	}
}

// packFails asks Pack for that error, and nothing beside it.
func packFails(t *testing.T, g api.Geometry, n [3]int, want api.Errno) {
	t.Helper()
	got, e := Pack(g, noise(n[0], 1), noise(n[1], 2), noise(n[2], 3))
	if e != want || len(got) != 0 {
		t.Errorf("Pack(%+v) of %v bytes = %d bytes, %v, want %v", g, n, len(got), e, want)
	}
}

// unpackFails asks Unpack for that error, and nothing beside it.
func unpackFails(t *testing.T, g api.Geometry, many int, want api.Errno) {
	t.Helper()
	x, y, z, e := Unpack(g, noise(many, 4))
	if e != want || len(x)+len(y)+len(z) != 0 {
		t.Errorf("Unpack(%+v) of %d bytes = %d, %d, %d bytes, %v, want %v", g, many, len(x), len(y), len(z), e, want)
	}
}

// P5.1

func TestFactoryByteByByte(t *testing.T) {
	for _, g := range rightOnes() {
		b, e := Factory(g)
		n := parts(g)
		if e != api.OK || len(b) != sum(n) {
			t.Fatalf("Factory(%+v) = %d bytes, %v, want %d", g, len(b), e, sum(n))
		}
		for i, v := range b {
			want := byte(255)
			if i >= n[0]+n[1] {
				want = 0
			}
			if v != want {
				t.Fatalf("Factory(%+v) has %d at %d, want %d", g, v, i, want)
			}
		}
	}
}

func TestFactoryInNumbers(t *testing.T) {
	for _, x := range []struct {
		g           api.Geometry
		ones, zeros int
	}{
		{api.Geometry{}, 0, 0},
		{api.Geometry{Eeprom: 1}, 128, 0},
		{api.Geometry{Flash: 1}, 256, 0},
		{api.Geometry{Sram: 1}, 0, 64},
		{api.Geometry{Eeprom: 3, Flash: 2, Sram: 5}, 1024, 320},
		{api.Geometry{Eeprom: 10, Flash: 64, Sram: 128}, 81920, 8192},
	} {
		b, e := Factory(x.g)
		same(t, "Factory", b, e, append(bytes.Repeat([]byte{255}, x.ones), make([]byte, x.zeros)...))
	}
}

func TestFactoryOfChipsThatCanNotBe(t *testing.T) {
	for _, g := range wrongOnes() {
		if b, e := Factory(g); e != api.ErrGeometry || len(b) != 0 {
			t.Errorf("Factory(%+v) = %d bytes, %v", g, len(b), e)
		}
	}
}

func TestPackIsAllInThisOrder(t *testing.T) {
	g := api.Geometry{Eeprom: 1, Flash: 1, Sram: 1}
	b, e := Pack(g, bytes.Repeat([]byte{1}, 128), bytes.Repeat([]byte{2}, 256), bytes.Repeat([]byte{3}, 64))
	if e != api.OK || len(b) != 448 {
		t.Fatalf("Pack: %d bytes, %v", len(b), e)
	}
	for i, want := range map[int]byte{0: 1, 127: 1, 128: 2, 383: 2, 384: 3, 447: 3} {
		if b[i] != want {
			t.Errorf("the byte at %d is %d, want %d", i, b[i], want)
		}
	}
	for _, g := range rightOnes() {
		x, y, z := chips(g)
		b, e := Pack(g, x, y, z)
		same(t, "Pack", b, e, bytes.Join([][]byte{x, y, z}, nil))
	}
}

func TestUnpackIsItsParts(t *testing.T) {
	for _, g := range rightOnes() {
		n := parts(g)
		b := noise(sum(n), 5)
		x, y, z, e := Unpack(g, b)
		same(t, "EEPROM", x, e, b[:n[0]])
		same(t, "flash", y, e, b[n[0]:n[0]+n[1]])
		same(t, "SRAM", z, e, b[n[0]+n[1]:])
	}
}

// An EEPROM, a flash and an SRAM of the same number of bytes aren't taken for each other.
func TestPartsOfOneLength(t *testing.T) {
	g := api.Geometry{Eeprom: 2, Flash: 1, Sram: 4}
	x, y, z := chips(g)
	b, e := Pack(g, x, y, z)
	same(t, "Pack", b, e, slices.Concat(x, y, z))
	u, v, w, e := Unpack(g, b)
	same(t, "EEPROM", u, e, x)
	same(t, "flash", v, e, y)
	same(t, "SRAM", w, e, z)
}

// R4: a chip that isn't there has no bytes, whether they are told as nil or as an empty list.
func TestNoBytesAreNilOrEmpty(t *testing.T) {
	for _, none := range [][]byte{nil, {}} {
		b, e := Pack(api.Geometry{}, none, none, none)
		same(t, "Pack of nothing", b, e, nil)
		x, y, z, e := Unpack(api.Geometry{}, none)
		same(t, "Unpack of nothing", slices.Concat(x, y, z), e, nil)
		some := noise(256, 6)
		b, e = Pack(api.Geometry{Eeprom: 2}, some, none, none)
		same(t, "Pack of an EEPROM", b, e, some)
		b, e = Pack(api.Geometry{Flash: 1}, none, some, none)
		same(t, "Pack of a flash", b, e, some)
		b, e = Pack(api.Geometry{Sram: 4}, none, none, some)
		same(t, "Pack of an SRAM", b, e, some)
	}
}

// Each chip's bytes one too few, right, and one too many, with each of the others' so: what one has too many doesn't make up for another one.
func TestPackOfOtherLengths(t *testing.T) {
	for _, g := range []api.Geometry{{}, {Eeprom: 1}, {Flash: 1}, {Sram: 1}, {Eeprom: 1, Flash: 1, Sram: 1}, {Eeprom: 2, Flash: 1, Sram: 4}, {Eeprom: 10, Flash: 64, Sram: 128}} {
		right := parts(g)
		for k := range 27 {
			n := [3]int{right[0] + k/9 - 1, right[1] + k/3%3 - 1, right[2] + k%3 - 1}
			if n != right && min(n[0], n[1], n[2]) >= 0 {
				packFails(t, g, n, api.ErrArg)
			}
		}
	}
}

// Chips' bytes in other places, or all of them in one, are as many in all, and yet not the chips'.
func TestPackOfBytesElsewhere(t *testing.T) {
	g := api.Geometry{Eeprom: 1, Flash: 1, Sram: 1}
	for _, n := range [][3]int{{448, 0, 0}, {0, 448, 0}, {0, 0, 448}, {256, 128, 64}, {128, 64, 256}, {64, 256, 128}, {384, 0, 64}, {128, 320, 0}, {0, 384, 64}, {128, 0, 320}, {0, 256, 64}, {128, 0, 64}, {128, 256, 0}, {0, 0, 0}} {
		packFails(t, g, n, api.ErrArg)
	}
	packFails(t, api.Geometry{Eeprom: 2}, [3]int{0, 256, 0}, api.ErrArg)
	packFails(t, api.Geometry{Eeprom: 2}, [3]int{0, 0, 256}, api.ErrArg)
	packFails(t, api.Geometry{Flash: 1}, [3]int{256, 0, 0}, api.ErrArg)
	packFails(t, api.Geometry{Flash: 1}, [3]int{0, 0, 256}, api.ErrArg)
	packFails(t, api.Geometry{Sram: 4}, [3]int{256, 0, 0}, api.ErrArg)
	packFails(t, api.Geometry{Sram: 4}, [3]int{0, 256, 0}, api.ErrArg)
}

func TestUnpackOfOtherLengths(t *testing.T) {
	for _, g := range rightOnes() {
		right := sum(parts(g))
		for _, n := range []int{0, 1, right - 64, right - 1, right + 1, right + 64, 2 * right} {
			if n >= 0 && n != right {
				unpackFails(t, g, n, api.ErrArg)
			}
		}
	}
}

// ErrGeometry is the first one that both name: whatever the lengths are, those that chips like these would seem to have among them.
func TestPackAndUnpackOfChipsThatCanNotBe(t *testing.T) {
	for _, g := range wrongOnes() {
		seems := [3]int{0, seemsRight(g.Flash, 256), seemsRight(g.Sram, 64)}
		if g.Eeprom >= 0 && g.Eeprom <= 10 {
			seems[0] = inTable(g.Eeprom)
		}
		for _, n := range [][3]int{{}, seems, {seems[0] + 1, seems[1], seems[2]}, {131072, seems[1], seems[2]}, {1, 1, 1}} {
			packFails(t, g, n, api.ErrGeometry)
			unpackFails(t, g, sum(n), api.ErrGeometry)
		}
	}
}

// P5.2

// sizes are such as may be, the ends among them.
func sizes() []int { return []int{1, 2, 3, 7, 8, 32, 100, 255, 256, 1000, 4095, 4096} }

// wrongSizes aren't from 1 to MaxSize; the lowest bits of some would be.
func wrongSizes() []int {
	return []int{0, -1, -2, -32, -4096, 4097, 4098, 8192, 65536, 65537, 1<<31 + 32, 1<<32 + 32, 1<<62 + 1, -(1 << 32) + 32, math.MinInt, math.MinInt + 32, math.MaxInt, math.MaxInt - 1}
}

func TestWrongSizes(t *testing.T) {
	for _, size := range wrongSizes() {
		for _, many := range []int{math.MinInt, -4096, -1, 0, 1, 4096, 4097, math.MaxInt} {
			if got := Sectors(many, size); got != 0 {
				t.Errorf("Sectors(%d, %d) = %d, want 0", many, size, got)
			}
		}
		for _, b := range [][]byte{nil, {}, {1}, noise(5000, 1)} {
			if l, e := Cut(b, size); e != api.ErrArg || len(l) != 0 {
				t.Errorf("Cut of %d bytes in pieces of %d = %d pieces, %v", len(b), size, len(l), e)
			}
		}
	}
}

func TestSectorsAboutMultiples(t *testing.T) {
	for _, size := range sizes() {
		for k := 1; k <= 300; k++ {
			for _, x := range []struct{ many, want int }{{k*size - size + 1, k}, {k * size, k}, {k*size + 1, k + 1}} {
				if got := Sectors(x.many, size); got != x.want {
					t.Errorf("Sectors(%d, %d) = %d, want %d", x.many, size, got, x.want)
				}
			}
		}
	}
}

func TestSectorsInNumbers(t *testing.T) {
	for _, x := range []struct{ many, size, want int }{
		{1, 1, 1}, {2, 1, 2}, {1, 4096, 1}, {4095, 4096, 1}, {4096, 4096, 1}, {4097, 4096, 2},
		{64, 32, 2}, {63, 32, 2}, {65, 32, 3}, {90112, 32, 2816}, {90112, 4096, 22}, {90112, 1000, 91},
	} {
		if got := Sectors(x.many, x.size); got != x.want {
			t.Errorf("Sectors(%d, %d) = %d, want %d", x.many, x.size, got, x.want)
		}
	}
}

func TestSectorsOfNoBytes(t *testing.T) {
	for _, size := range sizes() {
		for _, many := range []int{0, -1, -2, -size, -size - 1, -4096, math.MinInt, math.MinInt + 1, math.MinInt + size} {
			if got := Sectors(many, size); got != 0 {
				t.Errorf("Sectors(%d, %d) = %d, want 0", many, size, got)
			}
		}
	}
}

func TestSectorsOfTheHighestNumbers(t *testing.T) {
	for _, x := range []struct{ many, size, want int }{
		{math.MaxInt, 1, math.MaxInt}, {math.MaxInt - 1, 1, math.MaxInt - 1},
		{math.MaxInt, 2, 1 << 62}, {math.MaxInt - 1, 2, 1<<62 - 1}, {math.MaxInt, 3, 3074457345618258603},
		{math.MaxInt, 4096, 1 << 51}, {math.MaxInt - 4095, 4096, 1<<51 - 1}, {math.MaxInt - 4094, 4096, 1 << 51},
	} {
		if got := Sectors(x.many, x.size); got != x.want {
			t.Errorf("Sectors(%d, %d) = %d, want %d", x.many, x.size, got, x.want)
		}
	}
	for size := 1; size <= 4096; size++ {
		for below := range 10 {
			many := math.MaxInt - below
			want := (uint64(many) + uint64(size) - 1) / uint64(size) // 64 bits without a sign have room for this sum
			if got := Sectors(many, size); uint64(got) != want {
				t.Errorf("Sectors(%d, %d) = %d, want %d", many, size, got, want)
			}
		}
	}
}

// isCut holds pieces against the bytes that they must be of.
func isCut(t *testing.T, l [][]byte, e api.Errno, b []byte, size int) {
	t.Helper()
	many := len(b) / size
	if len(b)%size > 0 {
		many++
	}
	if e != api.OK || len(l) != many {
		t.Fatalf("%d bytes in pieces of %d: %d pieces, %v, want %d", len(b), size, len(l), e, many)
	}
	for i, p := range l {
		if len(p) != size {
			t.Fatalf("%d bytes in pieces of %d: the piece %d has %d", len(b), size, i, len(p))
		}
		for k, got := range p {
			want := byte(0)
			if at := i*size + k; at < len(b) {
				want = b[at]
			}
			if got != want {
				t.Fatalf("%d bytes in pieces of %d: the piece %d has %d at %d, want %d", len(b), size, i, got, k, want)
			}
		}
	}
}

// lengths are numbers of bytes about a piece's, and about several pieces'.
func lengths(size int) []int {
	return []int{0, 1, size / 2, size - 1, size, size + 1, 2*size - 1, 2 * size, 2*size + 1, 9*size - 1, 9 * size, 9*size + 1}
}

func TestExample(t *testing.T) {
	l, e := Cut([]byte{1, 2, 3}, 2)
	if e != api.OK || len(l) != 2 || !bytes.Equal(l[0], []byte{1, 2}) || !bytes.Equal(l[1], []byte{3, 0}) {
		t.Errorf("1, 2, 3 in pieces of 2: %v, %v", l, e)
	}
}

func TestCutAboutMultiples(t *testing.T) {
	for _, size := range sizes() {
		for _, n := range lengths(size) {
			b := noise(n, 7)
			l, e := Cut(b, size)
			isCut(t, l, e, b, size)
		}
	}
}

func TestCutOfNoBytes(t *testing.T) {
	for size := 1; size <= 4096; size++ {
		for _, none := range [][]byte{nil, {}} {
			if l, e := Cut(none, size); e != api.OK || len(l) != 0 {
				t.Errorf("no bytes in pieces of %d: %d pieces, %v", size, len(l), e)
			}
		}
	}
}

// What lies behind the bytes that are handed in is no part of the last piece.
func TestCutFillsWithBytes0(t *testing.T) {
	for _, size := range sizes() {
		for _, n := range lengths(size) {
			b, _ := within(n)
			l, e := Cut(b, size)
			isCut(t, l, e, b, size)
		}
	}
}

func TestCutOfAnImageIsAsManyAsItsSectors(t *testing.T) {
	for _, g := range rightOnes() {
		b, _ := Factory(g)
		for _, size := range []int{32, 100, 4096} {
			if l, _ := Cut(b, size); len(l) != Sectors(len(b), size) {
				t.Errorf("%d bytes in pieces of %d: %d pieces, %d sectors", len(b), size, len(l), Sectors(len(b), size))
			}
		}
	}
}

// pieceLists are pieces of unlike lengths, with empty ones at the ends and within, and none.
func pieceLists() [][][]byte {
	return [][][]byte{
		nil,
		{},
		{nil},
		{{}, nil, {}},
		{{1}},
		{{1}, {2}, {3}},
		{{1, 2, 3}, {4}, {5, 6}},
		{nil, {1}, {}, nil, {2, 3}, {}},
		{{1, 2}, {3}, {}, {4, 5, 6, 7}, nil, {8}},
		{noise(1000, 1), nil, noise(1, 2), noise(4096, 3), noise(33, 4)},
	}
}

func TestGlueOfEveryMany(t *testing.T) {
	for _, l := range pieceLists() {
		all := bytes.Join(l, nil)
		for many := range len(all) + 1 {
			b, e := Glue(l, many)
			same(t, "Glue", b, e, all[:many])
		}
	}
}

func TestGlueOfMoreThanThereAre(t *testing.T) {
	for _, l := range pieceLists() {
		n := len(bytes.Join(l, nil))
		for _, many := range []int{n + 1, n + 2, 2*n + 1, n + 1<<32, 1 << 40, math.MaxInt - n, math.MaxInt - 1, math.MaxInt} {
			if b, e := Glue(l, many); e != api.ErrArg || len(b) != 0 {
				t.Errorf("%d bytes of %d: %d bytes, %v", many, n, len(b), e)
			}
		}
	}
}

func TestGlueOfFewerThanNone(t *testing.T) {
	for _, l := range pieceLists() {
		n := len(bytes.Join(l, nil))
		for _, many := range []int{-1, -2, -n - 1, -1 << 32, -1<<32 + n, math.MinInt, math.MinInt + 1, math.MinInt + n} {
			if b, e := Glue(l, many); e != api.ErrArg || len(b) != 0 {
				t.Errorf("%d bytes of %d: %d bytes, %v", many, n, len(b), e)
			}
		}
	}
}

// What lies behind a piece, within its capacity, isn't glued.
func TestGlueOfPiecesOfOneText(t *testing.T) {
	text := noise(100, 8)
	l := [][]byte{text[:10], text[:10], text[5:7], text[90:], text[:0], text[20:21]}
	want := bytes.Join(l, nil)
	b, e := Glue(l, 33)
	same(t, "Glue", b, e, want)
	if _, e := Glue(l, 34); e != api.ErrArg {
		t.Errorf("one more than there are: %v", e)
	}
}

// P5.3

func TestWhatIsPackedIsUnpacked(t *testing.T) {
	for _, g := range rightOnes() {
		x, y, z := chips(g)
		b, e := Pack(g, x, y, z)
		if e != api.OK {
			t.Fatalf("Pack(%+v): %v", g, e)
		}
		u, v, w, e := Unpack(g, b)
		same(t, "EEPROM", u, e, x)
		same(t, "flash", v, e, y)
		same(t, "SRAM", w, e, z)
	}
}

func TestWhatIsUnpackedIsPacked(t *testing.T) {
	for _, g := range rightOnes() {
		for _, want := range [][]byte{noise(sum(parts(g)), 5), make([]byte, sum(parts(g)))} {
			x, y, z, e := Unpack(g, want)
			if e != api.OK {
				t.Fatalf("Unpack(%+v): %v", g, e)
			}
			b, e := Pack(g, x, y, z)
			same(t, "Pack", b, e, want)
		}
	}
}

func TestANewCartridgesChips(t *testing.T) {
	for _, g := range rightOnes() {
		b, _ := Factory(g)
		n := parts(g)
		x, y, z, e := Unpack(g, b)
		same(t, "EEPROM", x, e, bytes.Repeat([]byte{255}, n[0]))
		same(t, "flash", y, e, bytes.Repeat([]byte{255}, n[1]))
		same(t, "SRAM", z, e, make([]byte, n[2]))
	}
}

func TestWhatIsCutIsGlued(t *testing.T) {
	for _, size := range sizes() {
		for _, n := range lengths(size) {
			want := noise(n, 7)
			l, e := Cut(want, size)
			if e != api.OK {
				t.Fatalf("Cut: %v", e)
			}
			b, e := Glue(l, n)
			same(t, "Glue", b, e, want)
			whole, e := Glue(l, len(l)*size)
			same(t, "Glue of all", whole, e, append(bytes.Clone(want), make([]byte, len(l)*size-n)...))
			if _, e := Glue(l, len(l)*size+1); e != api.ErrArg {
				t.Errorf("one more than the pieces have: %v", e)
			}
		}
	}
}

func TestImagesAreCutAndGlued(t *testing.T) {
	for _, g := range rightOnes() {
		x, y, z := chips(g)
		want, _ := Pack(g, x, y, z)
		for _, size := range []int{32, 100, 256, 4096} {
			l, _ := Cut(want, size)
			b, e := Glue(l, len(want))
			same(t, "Glue", b, e, want)
		}
	}
}

// R5

// copies are lists of their own, with the same bytes.
func copies(l [][]byte) [][]byte {
	var out [][]byte
	for _, p := range l {
		out = append(out, bytes.Clone(p))
	}
	return out
}

// spoil changes each byte of a list, and lays others behind it as far as its memory may reach.
func spoil(b []byte) {
	for i := range b {
		b[i] ^= 255
	}
	_ = append(b, 170)
	_ = append(b, bytes.Repeat([]byte{170}, 5000)...)
	for k := range b[:cap(b)] {
		b[:cap(b)][k] ^= 85
	}
}

// apart spoils lists one by one; those that aren't spoilt yet must stay as they are.
func apart(t *testing.T, what string, l ...[]byte) {
	t.Helper()
	before := copies(l)
	for i := range l {
		spoil(l[i])
		for k := i + 1; k < len(l); k++ {
			if !bytes.Equal(l[k], before[k]) {
				t.Fatalf("%s: what is done to the list %d changes the list %d", what, i, k)
			}
		}
	}
}

// apartBothWays does it from the first one on and, with lists like them, from the last one on.
func apartBothWays(t *testing.T, what string, made func() [][]byte) {
	t.Helper()
	apart(t, what, made()...)
	back := made()
	slices.Reverse(back)
	apart(t, what+", from the last one on", back...)
}

func TestPiecesAreApart(t *testing.T) {
	for _, size := range []int{1, 2, 3, 32, 256} {
		for _, n := range lengths(size) {
			apartBothWays(t, "Cut", func() [][]byte {
				b, all := within(n)
				l, _ := Cut(b, size)
				return append([][]byte{all}, l...)
			})
		}
	}
}

// What is appended to a piece isn't laid over the next one, however little it is.
func TestNoPieceRunsIntoTheNextOne(t *testing.T) {
	b := noise(50, 3)
	for more := 1; more <= 60; more++ {
		l, e := Cut(b, 8)
		for i := range l {
			_ = append(l[i], make([]byte, more)...)
			_ = append(l[i][:4], l[i][4:]...)
		}
		isCut(t, l, e, b, 8)
	}
}

func TestNoPartRunsIntoTheNextOne(t *testing.T) {
	for _, g := range []api.Geometry{{Eeprom: 1, Flash: 1, Sram: 1}, {Flash: 1, Sram: 1}, {Eeprom: 1, Sram: 1}, {Eeprom: 1, Flash: 1}} {
		n := parts(g)
		b := noise(sum(n), 5)
		for _, more := range []int{1, 2, 64, 128, 256, 448, 1000} {
			x, y, z, e := Unpack(g, b)
			for _, p := range [][]byte{x, y, z} {
				_ = append(p, make([]byte, more)...)
			}
			same(t, "EEPROM", x, e, b[:n[0]])
			same(t, "flash", y, e, b[n[0]:n[0]+n[1]])
			same(t, "SRAM", z, e, b[n[0]+n[1]:])
		}
	}
}

func TestPartsAreApart(t *testing.T) {
	for _, g := range rightOnes() {
		apartBothWays(t, "Unpack", func() [][]byte {
			b, all := within(sum(parts(g)))
			x, y, z, _ := Unpack(g, b)
			return [][]byte{all, x, y, z}
		})
	}
}

// A chip that is alone, or the only one with bytes, is packed into memory of its own too.
func TestAnImageIsApartFromItsChips(t *testing.T) {
	for _, g := range rightOnes() {
		apartBothWays(t, "Pack", func() [][]byte {
			n := parts(g)
			x, allX := within(n[0])
			y, allY := within(n[1])
			z, allZ := within(n[2])
			b, _ := Pack(g, x, y, z)
			return [][]byte{b, allX, allY, allZ}
		})
	}
}

func TestWhatIsGluedIsApart(t *testing.T) {
	for _, many := range []int{0, 1, 9, 10, 11, 20, 29, 30} {
		for _, first := range []int{0, 10, 30} {
			apartBothWays(t, "Glue", func() [][]byte {
				x, allX := within(first)
				y, allY := within(30 - first)
				b, _ := Glue([][]byte{nil, x, y}, many)
				return [][]byte{b, allX, allY}
			})
		}
		apartBothWays(t, "Glue of one piece", func() [][]byte {
			x, all := within(30)
			b, _ := Glue([][]byte{x}, many)
			return [][]byte{b, all}
		})
	}
}

func TestNewCartridgesAreApart(t *testing.T) {
	for _, g := range rightOnes() {
		apartBothWays(t, "Factory", func() [][]byte {
			x, _ := Factory(g)
			y, _ := Factory(g)
			return [][]byte{x, y}
		})
	}
}

// What is handed in, and what lies behind it, stays as it is, with an error too.
func TestWhatIsHandedInStays(t *testing.T) {
	x, allX := within(128)
	y, allY := within(256)
	z, allZ := within(64)
	b, allB := within(448)
	l := [][]byte{x, y, nil, z}
	before := copies([][]byte{allX, allY, allZ, allB})
	for _, g := range append(wrongOnes(), api.Geometry{Eeprom: 1, Flash: 1, Sram: 1}, api.Geometry{Eeprom: 1}) {
		Pack(g, x, y, z)
		Unpack(g, b)
	}
	for _, size := range append(wrongSizes(), sizes()...) {
		Cut(b, size)
	}
	for _, many := range []int{-1, 0, 1, 128, 129, 448, 449, math.MaxInt} {
		Glue(l, many)
	}
	for i, all := range [][]byte{allX, allY, allZ, allB} {
		if !bytes.Equal(all, before[i]) {
			t.Errorf("the list %d that was handed in was changed", i)
		}
	}
	if len(l) != 4 || len(l[0]) != 128 || len(l[1]) != 256 || l[2] != nil || len(l[3]) != 64 {
		t.Error("the list of pieces was changed")
	}
}

// R6: what was asked ahead plays no part.
func TestAnswersStayTheSame(t *testing.T) {
	g := api.Geometry{Eeprom: 1, Flash: 1, Sram: 1}
	x, y, z := chips(g)
	want := slices.Concat(x, y, z)
	for _, other := range append(rightOnes(), wrongOnes()...) {
		b, _ := Factory(other)
		l, _ := Cut(b, 32)
		Glue(l, len(b)+1)
		Unpack(other, want)
		b, e := Pack(g, x, y, z)
		same(t, "Pack", b, e, want)
		l, e = Cut(want, 100)
		isCut(t, l, e, want, 100)
	}
}
