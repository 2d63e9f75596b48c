package geo

import (
	"math"
	"testing"

	"keepsake/api"
)

// column is one call, and what the chapter's table tells of the kinds 1 to 10.
type column struct {
	name string
	call func(int) int
	want [10]int
}

func columns() []column {
	return []column{
		{"Eeprom", Eeprom, [10]int{128, 256, 512, 1024, 2048, 4096, 8192, 16384, 32768, 65536}},
		{"Page", Page, [10]int{8, 8, 16, 16, 16, 32, 32, 64, 64, 128}},
		{"Wide", Wide, [10]int{1, 1, 1, 1, 1, 2, 2, 2, 2, 2}},
		{"Blocks", Blocks, [10]int{0, 0, 1, 2, 3, 0, 0, 0, 0, 0}},
	}
}

// measure is a call that tells bytes of a number of pieces, how many there may be, and how many bytes each has.
type measure struct {
	name       string
	call       func(int) int
	most, each int
}

func measures() []measure {
	return []measure{
		{"Flash", Flash, 64, 256},
		{"Sram", Sram, 128, 64},
	}
}

// outside are numbers that aren't from 0 to most: next to the ends, far from them, and such whose lowest bits alone, or whose products cut off to 64 bits, would be right.
func outside(most int) []int {
	out := []int{-1, -2, most + 1, most + 2, -most, -most - 1, math.MinInt, math.MinInt + 1, math.MaxInt, math.MaxInt - 1}
	for shift := 8; shift <= 62; shift++ {
		for _, low := range []int{0, 1, 3, most} {
			out = append(out, 1<<shift+low, -(1<<shift)+low)
		}
	}
	for _, low := range []int{1, 3, most} {
		out = append(out, math.MinInt+low)
	}
	return out
}

// P3.1

func TestKindsAreTheTables(t *testing.T) {
	for _, c := range columns() {
		for i, want := range c.want {
			if got := c.call(i + 1); got != want {
				t.Errorf("%s(%d) = %d, want %d", c.name, i+1, got, want)
			}
		}
	}
}

func TestOtherKindsHaveNothing(t *testing.T) {
	for _, c := range columns() {
		for _, kind := range append(outside(10), 0) {
			if got := c.call(kind); got != 0 {
				t.Errorf("%s(%d) = %d, want 0", c.name, kind, got)
			}
		}
		for kind := 11; kind <= 5000; kind++ {
			if c.call(kind) != 0 || c.call(-kind) != 0 {
				t.Errorf("%s of %d, or of %d, isn't 0", c.name, kind, -kind)
			}
		}
	}
}

func TestBytesOfPieces(t *testing.T) {
	for _, m := range measures() {
		for n := range m.most + 1 {
			if got, want := m.call(n), n*m.each; got != want {
				t.Errorf("%s(%d) = %d, want %d", m.name, n, got, want)
			}
		}
	}
}

func TestBytesAtTheEnds(t *testing.T) {
	for _, x := range []struct {
		name      string
		got, want int
	}{
		{"Flash(0)", Flash(0), 0},
		{"Flash(1)", Flash(1), 256},
		{"Flash(63)", Flash(63), 16128},
		{"Flash(64)", Flash(64), 16384},
		{"Flash(65)", Flash(65), 0},
		{"Flash(-1)", Flash(-1), 0},
		{"Sram(0)", Sram(0), 0},
		{"Sram(1)", Sram(1), 64},
		{"Sram(127)", Sram(127), 8128},
		{"Sram(128)", Sram(128), 8192},
		{"Sram(129)", Sram(129), 0},
		{"Sram(-1)", Sram(-1), 0},
	} {
		if x.got != x.want {
			t.Errorf("%s = %d, want %d", x.name, x.got, x.want)
		}
	}
}

func TestNoBytesOfTooManyPieces(t *testing.T) {
	for _, m := range measures() {
		for _, n := range outside(m.most) {
			if got := m.call(n); got != 0 {
				t.Errorf("%s(%d) = %d, want 0", m.name, n, got)
			}
		}
		for n := m.most + 1; n <= 70000; n++ {
			if m.call(n) != 0 || m.call(-n) != 0 {
				t.Errorf("%s of %d, or of %d, isn't 0", m.name, n, -n)
			}
		}
	}
}

// Each of these products, cut off to 64 bits, is the bytes of few pieces.
func TestNoBytesWhereTheProductDoesNotFit(t *testing.T) {
	for few := range 65 {
		for _, n := range []int{1<<56 + few, 1<<60 + few, -1<<56 + few, math.MinInt + few} {
			if n*256 != few*256 {
				t.Fatalf("the test's number %d isn't like %d", n, few)
			}
			if got := Flash(n); got != 0 {
				t.Errorf("Flash(%d) = %d, want 0", n, got)
			}
		}
		for _, n := range []int{1<<58 + few, 1<<61 + few, -1<<58 + few, math.MinInt + few} {
			if n*64 != few*64 {
				t.Fatalf("the test's number %d isn't like %d", n, few)
			}
			if got := Sram(n); got != 0 {
				t.Errorf("Sram(%d) = %d, want 0", n, got)
			}
		}
	}
}

// P3.2

// holds asks Right and Total of one geometry.
func holds(t *testing.T, g api.Geometry, right bool, total int) {
	t.Helper()
	if got := Right(g); got != right {
		t.Errorf("Right(%+v) = %v", g, got)
	}
	if got := Total(g); got != total {
		t.Errorf("Total(%+v) = %d, want %d", g, got, total)
	}
}

// inTable is a kind's bytes as the table has them, with 0 of no EEPROM.
func inTable(kind int) int {
	return [11]int{0, 128, 256, 512, 1024, 2048, 4096, 8192, 16384, 32768, 65536}[kind]
}

func TestEveryRightGeometry(t *testing.T) {
	for kind := range 11 {
		for sectors := range 65 {
			for units := range 129 {
				holds(t, api.Geometry{Eeprom: kind, Flash: sectors, Sram: units}, true, inTable(kind)+sectors*256+units*64)
			}
		}
	}
}

func TestTotalsInNumbers(t *testing.T) {
	holds(t, api.Geometry{}, true, 0)
	holds(t, api.Geometry{Eeprom: 10}, true, 65536)
	holds(t, api.Geometry{Flash: 64}, true, 16384)
	holds(t, api.Geometry{Sram: 128}, true, 8192)
	holds(t, api.Geometry{Eeprom: 1, Flash: 1, Sram: 1}, true, 448)
	holds(t, api.Geometry{Eeprom: 3, Flash: 2, Sram: 5}, true, 1344)
	holds(t, api.Geometry{Eeprom: 10, Flash: 64, Sram: 128}, true, 90112)
}

// One wrong part is enough, whatever the others are: none of their bytes are told.
func TestOnePartIsWrong(t *testing.T) {
	for _, rest := range []api.Geometry{{}, {Eeprom: 1, Flash: 1, Sram: 1}, {Eeprom: 3, Flash: 30, Sram: 100}, {Eeprom: 10, Flash: 64, Sram: 128}} {
		for _, n := range outside(10) {
			g := rest
			g.Eeprom = n
			holds(t, g, false, 0)
		}
		for _, n := range outside(64) {
			g := rest
			g.Flash = n
			holds(t, g, false, 0)
		}
		for _, n := range outside(128) {
			g := rest
			g.Sram = n
			holds(t, g, false, 0)
		}
	}
}

// ends are the numbers at both ends of what may be, and those just beyond.
func ends(most int) []int {
	return []int{math.MinInt, -1, 0, 1, most - 1, most, most + 1, math.MaxInt}
}

func TestEndsTogether(t *testing.T) {
	const first, last = 2, 5 // of ends, the ones that may be
	for i, kind := range ends(10) {
		for j, sectors := range ends(64) {
			for k, units := range ends(128) {
				g := api.Geometry{Eeprom: kind, Flash: sectors, Sram: units}
				if min(i, j, k) < first || max(i, j, k) > last {
					holds(t, g, false, 0)
				} else {
					holds(t, g, true, inTable(kind)+sectors*256+units*64)
				}
			}
		}
	}
}

// Each part has its own end: what is the most of one may be too much of another one.
func TestPartsHaveTheirOwnEnds(t *testing.T) {
	holds(t, api.Geometry{Eeprom: 64}, false, 0)
	holds(t, api.Geometry{Eeprom: 128}, false, 0)
	holds(t, api.Geometry{Flash: 11}, true, 2816)
	holds(t, api.Geometry{Flash: 128}, false, 0)
	holds(t, api.Geometry{Sram: 11}, true, 704)
	holds(t, api.Geometry{Sram: 65}, true, 4160)
}

// Parts beyond the ends that would make up for each other are wrong all the same.
func TestWrongPartsDoNotMakeUpForEachOther(t *testing.T) {
	holds(t, api.Geometry{Flash: -1, Sram: 4}, false, 0)
	holds(t, api.Geometry{Flash: 1, Sram: -4}, false, 0)
	holds(t, api.Geometry{Eeprom: -1, Flash: -1, Sram: -1}, false, 0)
	holds(t, api.Geometry{Eeprom: 11, Flash: 65, Sram: 129}, false, 0)
	holds(t, api.Geometry{Eeprom: math.MaxInt, Flash: math.MinInt, Sram: 1}, false, 0)
}

// P3.3

func TestEachKindHasTwiceAsMany(t *testing.T) {
	for kind := 2; kind <= 10; kind++ {
		if Eeprom(kind) != 2*Eeprom(kind-1) || Eeprom(kind) == 0 {
			t.Errorf("kind %d has %d bytes, the one ahead %d", kind, Eeprom(kind), Eeprom(kind-1))
		}
	}
}

func TestAnAddressTellsEachByte(t *testing.T) {
	for kind := 1; kind <= 10; kind++ {
		numbers := 1 << (8*Wide(kind) + Blocks(kind))
		if Eeprom(kind) < 1 || numbers < Eeprom(kind) {
			t.Errorf("kind %d: %d numbers for %d bytes", kind, numbers, Eeprom(kind))
		}
	}
}

func TestAPageDividesTheBytes(t *testing.T) {
	for kind := 1; kind <= 10; kind++ {
		if Page(kind) < 1 || Eeprom(kind) < 1 || Eeprom(kind)%Page(kind) != 0 {
			t.Errorf("kind %d: %d bytes in pages of %d", kind, Eeprom(kind), Page(kind))
		}
	}
}

// R6: what was asked ahead plays no part.
func TestAnswersStayTheSame(t *testing.T) {
	g := api.Geometry{Eeprom: 3, Flash: 2, Sram: 5}
	for _, n := range append(outside(128), 0, 1, 3, 10, 64, 128) {
		for _, call := range []func(int) int{Eeprom, Page, Wide, Blocks, Flash, Sram} {
			call(n)
		}
		Total(api.Geometry{Eeprom: n, Flash: n, Sram: n})
		holds(t, g, true, 1344)
		if got := [4]int{Eeprom(3), Page(3), Wide(3), Blocks(3)}; got != [4]int{512, 16, 1, 1} {
			t.Fatalf("kind 3 is told as %v behind one of %d", got, n)
		}
	}
}
