package cut

import (
	"bytes"
	"math"
	"slices"
	"strings"
	"testing"
)

// P8.1

func TestCellsInNumbers(t *testing.T) {
	old := []byte{1, 2, 3}
	for _, x := range []struct {
		at         []int
		pick, want []byte
	}{
		{[]int{2, 0}, []byte{9, 8}, []byte{8, 2, 9}},
		{[]int{0, 1, 2}, []byte{4, 5, 6}, []byte{4, 5, 6}},
		{[]int{1}, []byte{0}, []byte{1, 0, 3}},
		{[]int{1}, []byte{255}, []byte{1, 255, 3}},
		{[]int{2, 0, 1}, []byte{9, 8}, []byte{8, 2, 9}}, // fewer picks
		{[]int{2}, []byte{9, 8}, []byte{1, 2, 9}},       // fewer places
		{[]int{2, 0}, nil, []byte{1, 2, 3}},
		{nil, []byte{9, 8}, []byte{1, 2, 3}},
		{nil, nil, []byte{1, 2, 3}},
		{[]int{1, 1}, []byte{9, 8}, []byte{1, 8, 3}},
		{[]int{1, 0, 1}, []byte{9, 8, 7}, []byte{8, 7, 3}},
		{[]int{1, 0, 1}, []byte{9, 8}, []byte{8, 9, 3}}, // the later one has no pick
		{[]int{1, 1}, []byte{9, 2}, []byte{1, 2, 3}},    // the later pick is what was there
		{[]int{-1, 1}, []byte{9, 8}, []byte{1, 8, 3}},
		{[]int{3, 1}, []byte{9, 8}, []byte{1, 8, 3}},
		{[]int{1 << 40, 1, math.MinInt, 0}, []byte{9, 8, 7, 6}, []byte{6, 8, 3}},
		{[]int{-1, 3, 1}, []byte{9, 8}, []byte{1, 2, 3}}, // what is passed over uses its pick up
	} {
		same(t, Cells(old, x.at, x.pick), x.want, "Cells", old, x.at, x.pick)
	}
}

func TestCellsOfAllShortLists(t *testing.T) {
	places := lists(4, -1, 0, 1, 2, 3, math.MinInt, math.MaxInt)
	for n := range 4 {
		for picks := range 6 {
			old, pick := counted(1, n), counted(11, picks)
			for _, at := range places {
				same(t, Cells(old, at, pick), cellsTold(old, at, pick), "Cells", old, at, pick)
			}
		}
	}
}

func TestCellsAtPlacesThatOldHasNot(t *testing.T) {
	for _, n := range []int{0, 1, 3, 256} {
		old := counted(1, n)
		for _, at := range outside(n) {
			same(t, Cells(old, []int{at}, []byte{77}), old, "Cells", n, at)
			among := []int{n - 1, at, 0, at}
			same(t, Cells(old, among, []byte{7, 8, 9, 10}), cellsTold(old, among, []byte{7, 8, 9, 10}), "Cells", n, among)
		}
		same(t, Cells(old, outside(n), counted(3, 1000)), old, "Cells", n, outside(n))
	}
}

func TestCellsHasEachByteAtEachPlace(t *testing.T) {
	old := counted(0, 256)
	for p := range old {
		for v := range 256 {
			got := Cells(old, []int{p}, []byte{byte(v)})
			want := bytes.Clone(old)
			want[p] = byte(v)
			if !bytes.Equal(got, want) {
				t.Errorf("Cells has %v with %d at %d", got, v, p)
			}
		}
	}
}

func TestCellsOfLongLists(t *testing.T) {
	next := chance(1)
	for range 3000 {
		old := someBytes(next, next(60))
		at, pick := somePlaces(next, next(80), len(old)), someBytes(next, next(80))
		same(t, Cells(old, at, pick), cellsTold(old, at, pick), "Cells", old, at, pick)
	}
	old := someBytes(next, 65536)
	at, pick := somePlaces(next, 500, len(old)), someBytes(next, 450)
	if !bytes.Equal(Cells(old, at, pick), cellsTold(old, at, pick)) {
		t.Error("Cells of 65536 bytes isn't what is told")
	}
}

// P8.2

func TestRangeInNumbers(t *testing.T) {
	old, pick := []byte{1, 2, 3, 4}, []byte{9, 8, 7}
	for _, x := range []struct {
		from, many int
		want       []byte
	}{
		{0, 1, []byte{9, 2, 3, 4}},
		{3, 1, []byte{1, 2, 3, 9}},
		{1, 2, []byte{1, 9, 8, 4}},
		{0, 3, []byte{9, 8, 7, 4}},
		{0, 4, []byte{9, 8, 7, 4}}, // fewer picks
		{1, 4, []byte{1, 9, 8, 7}},
		{2, 2, []byte{1, 2, 9, 8}},
		{2, 3, []byte{1, 2, 9, 8}},
		{-1, 1, []byte{1, 2, 3, 4}},
		{-1, 2, []byte{8, 2, 3, 4}},
		{-1, 3, []byte{8, 7, 3, 4}},
		{-2, 3, []byte{7, 2, 3, 4}},
		{-3, 9, []byte{1, 2, 3, 4}}, // all picks are passed over
		{4, 1, []byte{1, 2, 3, 4}},
		{5, 9, []byte{1, 2, 3, 4}},
		{1, 0, []byte{1, 2, 3, 4}},
		{1, -1, []byte{1, 2, 3, 4}},
		{1, math.MinInt, []byte{1, 2, 3, 4}},
		{2, math.MaxInt, []byte{1, 2, 9, 8}},
		{math.MinInt, math.MaxInt, []byte{1, 2, 3, 4}},
		{math.MaxInt, math.MaxInt, []byte{1, 2, 3, 4}},
		{math.MaxInt - 1, 4, []byte{1, 2, 3, 4}},
	} {
		soon(t, func() { same(t, Range(old, x.from, x.many, pick), x.want, "Range", old, x.from, x.many, pick) })
	}
	same(t, Range(old, 1, 2, nil), old, "Range without picks")
	same(t, Range(nil, 0, 2, pick), nil, "Range of nothing")
}

func TestRangeOfSmallNumbers(t *testing.T) {
	for n := range 6 {
		for picks := range 10 {
			old, pick := counted(1, n), counted(101, picks)
			for from := -n - 4; from <= n+4; from++ {
				for many := -3; many <= 2*n+6; many++ {
					same(t, Range(old, from, many, pick), rangeTold(old, from, many, pick), "Range", old, from, many, pick)
				}
			}
		}
	}
}

// extremes are numbers at both ends, at powers of 2, and about 0.
func extremes() []int {
	out := []int{0, 1, 3, 7, math.MinInt, math.MinInt + 1, math.MinInt + 3, math.MaxInt - 4, math.MaxInt - 1, math.MaxInt}
	for _, shift := range []int{4, 8, 15, 16, 31, 32, 33, 40, 61, 62} {
		for _, more := range []int{-1, 0, 2} {
			out = append(out, 1<<shift+more, -(1<<shift)+more)
		}
	}
	return out
}

func TestRangeOfExtremes(t *testing.T) {
	soon(t, func() {
		for _, n := range []int{0, 1, 5, 300} {
			for _, picks := range []int{0, 1, 6, 400} {
				old, pick := counted(1, n), counted(101, picks)
				for _, from := range extremes() {
					for _, many := range extremes() {
						same(t, Range(old, from, many, pick), rangeTold(old, from, many, pick), "Range", n, from, many, picks)
					}
				}
			}
		}
	})
}

// Where the places in a row run beyond the greatest number, or begin at the least one, none of them is one of old's.
func TestRangeAtTheLeastAndTheGreatestPlaces(t *testing.T) {
	soon(t, func() {
		old, pick := counted(1, 10), counted(101, 1000)
		for less := range 50 {
			for _, many := range []int{1, less, less + 1, less + 11, 100, 999, 1000, 1001, math.MaxInt} {
				same(t, Range(old, math.MaxInt-less, many, pick), old, "Range", less, many)
				same(t, Range(old, math.MinInt+less, many, pick), old, "Range", less, many)
			}
		}
	})
}

func TestRangeOfLongLists(t *testing.T) {
	next := chance(2)
	for range 5000 {
		old := someBytes(next, next(100))
		from, many, pick := next(160)-40, next(160)-10, someBytes(next, next(160))
		same(t, Range(old, from, many, pick), rangeTold(old, from, many, pick), "Range", old, from, many, pick)
	}
	old, pick := someBytes(next, 16384), someBytes(next, 20000)
	for _, x := range [][2]int{{0, 16384}, {256, 256}, {16128, 256}, {-3, 20000}, {5, 16379}, {5, 16380}} {
		if !bytes.Equal(Range(old, x[0], x[1], pick), rangeTold(old, x[0], x[1], pick)) {
			t.Error("Range of 16384 bytes isn't what is told", x)
		}
	}
}

func TestRangeIsCellsOfThePlacesInARow(t *testing.T) {
	next := chance(3)
	for range 3000 {
		old := someBytes(next, next(20))
		from, many, pick := next(40)-15, next(40)-5, someBytes(next, next(40))
		var at []int
		for i := 0; i < many; i++ {
			at = append(at, from+i)
		}
		same(t, Range(old, from, many, pick), Cells(old, at, pick), "Range", old, from, many, pick)
	}
}

// P8.3

func TestProgramInNumbers(t *testing.T) {
	old := []byte{0xf0, 0xff, 0x00, 0xa5}
	for _, x := range []struct {
		at   int
		pick byte
		want []byte
	}{
		{0, 0x3c, []byte{0x30, 0xff, 0x00, 0xa5}},
		{0, 0x0f, []byte{0x00, 0xff, 0x00, 0xa5}},
		{1, 0x3c, []byte{0xf0, 0x3c, 0x00, 0xa5}},
		{1, 0xff, []byte{0xf0, 0xff, 0x00, 0xa5}},
		{2, 0xff, []byte{0xf0, 0xff, 0x00, 0xa5}},
		{3, 0x0f, []byte{0xf0, 0xff, 0x00, 0x05}},
		{3, 0x00, []byte{0xf0, 0xff, 0x00, 0x00}},
		{4, 0x00, []byte{0xf0, 0xff, 0x00, 0xa5}},
		{-1, 0x00, []byte{0xf0, 0xff, 0x00, 0xa5}},
	} {
		same(t, Program(old, x.at, x.pick), x.want, "Program", old, x.at, x.pick)
	}
}

func TestProgramOfEachByteAtEachPlace(t *testing.T) {
	old := counted(0, 256)
	for at := range old {
		for pick := range 256 {
			got, want := Program(old, at, byte(pick)), programTold(old, at, byte(pick))
			if !bytes.Equal(got, want) {
				t.Fatalf("Program(.., %d, %d) is %v, want %v", at, pick, got, want)
			}
		}
	}
}

func TestProgramAtPlacesThatThereAreNot(t *testing.T) {
	for _, n := range []int{0, 1, 2, 256} {
		old := counted(1, n)
		for _, at := range outside(n) {
			for pick := range 256 {
				same(t, Program(old, at, byte(pick)), old, "Program", n, at, pick)
			}
		}
	}
}

// P8.4

func TestApartInNumbers(t *testing.T) {
	for _, x := range []struct {
		a, b string
		want []int
	}{
		{"", "", nil},
		{"abc", "abc", nil},
		{"axc", "abcd", []int{1, 3}},
		{"abc", "", []int{0, 1, 2}},
		{"abc", "a", []int{1, 2}},
		{"abc", "xyz", []int{0, 1, 2}},
		{"abc", "bc", []int{0, 1, 2}}, // one behind the other, not wherever they stand
		{"a", "a\x00", []int{1}},      // no byte isn't the byte 0
		{"", "\x00\x00", []int{0, 1}},
		{"a", "a\xff", []int{1}},
		{"abc", "abd", []int{2}},
		{"xbc", "abc", []int{0}},
	} {
		for _, l := range [][]int{Apart([]byte(x.a), []byte(x.b)), Apart([]byte(x.b), []byte(x.a))} {
			if !slices.Equal(l, x.want) {
				t.Errorf("%q and %q are apart at %v, want %v", x.a, x.b, l, x.want)
			}
		}
	}
}

func TestApartOfAllShortLists(t *testing.T) {
	all := lists[byte](4, 0, 1, 255)
	for _, a := range all {
		for _, b := range all {
			if got, want := Apart(a, b), apartTold(a, b); !slices.Equal(got, want) {
				t.Errorf("%v and %v are apart at %v, want %v", a, b, got, want)
			}
		}
	}
}

func TestApartOfEachTwoBytes(t *testing.T) {
	for x := range 256 {
		for y := range 256 {
			a, b := []byte{7, byte(x), 7}, []byte{7, byte(y), 7}
			if got, want := Apart(a, b), apartTold(a, b); !slices.Equal(got, want) {
				t.Errorf("%v and %v are apart at %v, want %v", a, b, got, want)
			}
		}
	}
}

func TestApartOfLongLists(t *testing.T) {
	next := chance(4)
	for range 300 {
		a := someBytes(next, next(2000))
		b := Cells(a, somePlaces(next, next(300), len(a)), someBytes(next, 300))
		b = append(b, someBytes(next, next(20))...)[next(2):]
		if got, want := Apart(a, b), apartTold(a, b); !slices.Equal(got, want) {
			t.Errorf("lists of %d and %d bytes are apart at %v, want %v", len(a), len(b), got, want)
		}
	}
}

// P8.5

// within asks that an answer is as long as old, and apart from it at those places alone.
func within(t *testing.T, old, got []byte, may func(p int) bool) {
	t.Helper()
	if len(got) != len(old) {
		t.Errorf("%d bytes came of %d", len(got), len(old))
	}
	for _, p := range Apart(old, got) {
		if !may(p) {
			t.Errorf("%v came of %v: the place %d is apart", got, old, p)
		}
	}
}

func TestNoOtherPlacesAreApart(t *testing.T) {
	next := chance(5)
	for range 5000 {
		old, pick := someBytes(next, next(50)), someBytes(next, next(60))
		at := somePlaces(next, next(60), len(old))
		within(t, old, Cells(old, at, pick), func(p int) bool { return slices.Contains(at, p) })
		from, many := next(80)-20, next(80)-20
		within(t, old, Range(old, from, many, pick), func(p int) bool { return p >= from && p < from+many })
		one := somePlaces(next, 1, len(old))[0]
		within(t, old, Program(old, one, byte(next(256))), func(p int) bool { return p == one })
	}
}

func TestProgramTurnsNoBitTo1(t *testing.T) {
	next := chance(6)
	for range 20000 {
		old := someBytes(next, next(30))
		at, pick := somePlaces(next, 1, len(old))[0], byte(next(256))
		for p, b := range Program(old, at, pick) {
			if b&^old[p] != 0 {
				t.Errorf("Program(%v, %d, %d) has %d at %d", old, at, pick, b, p)
			}
		}
	}
}

// R4

func TestNilAndEmptyAreTheSame(t *testing.T) {
	old, at, pick := []byte{1, 2}, []int{1, 0}, []byte{9, 8}
	for _, none := range [][]byte{nil, {}} {
		same(t, Cells(none, at, pick), nil, "Cells", none)
		same(t, Cells(old, at, none), old, "Cells", none)
		same(t, Range(none, -1, 5, pick), nil, "Range", none)
		same(t, Range(old, 0, 2, none), old, "Range", none)
		same(t, Program(none, 0, 5), nil, "Program", none)
		for _, l := range [][]int{Apart(none, nil), Apart(none, []byte{}), Apart(nil, none)} {
			if len(l) != 0 {
				t.Error("nothing and nothing are apart at", l)
			}
		}
		if !slices.Equal(Apart(old, none), []int{0, 1}) || !slices.Equal(Apart(none, old), []int{0, 1}) {
			t.Error("what is apart of nothing", Apart(old, none), Apart(none, old))
		}
	}
	same(t, Cells(old, []int{}, pick), old, "Cells", []int{})
}

// R5

// answers are those of all calls that answer bytes, with some in which nothing is changed.
func answers(old, pick []byte, at []int) [][]byte {
	return [][]byte{
		Cells(old, at, pick), Cells(old, nil, pick), Cells(old, at, nil), Cells(old, []int{-1, len(old)}, pick),
		Range(old, 1, 2, pick), Range(old, 0, 0, pick), Range(old, 0, 9, nil), Range(old, len(old), 9, pick), Range(old, 0, 9, pick),
		Program(old, 1, 5), Program(old, 1, 255), Program(old, -1, 5), Program(old, len(old), 5),
	}
}

// The lists handed in are pieces of longer ones: neither they nor what lies about them may change.
func TestWhatIsHandedInStays(t *testing.T) {
	allOld, allPick, allAt := []byte("ahead|old bytes|behind"), []byte("ahead|picks|behind"), []int{7, 7, 3, 0, -1, 99, 2, 7, 7}
	old, pick, at := allOld[6:15], allPick[6:11], allAt[2:7]
	answers(old, pick, at)
	Apart(old, pick)
	Apart(pick, old)
	if string(allOld) != "ahead|old bytes|behind" || string(allPick) != "ahead|picks|behind" || !slices.Equal(allAt, []int{7, 7, 3, 0, -1, 99, 2, 7, 7}) {
		t.Errorf("what was handed in is now %q, %q, %v", allOld, allPick, allAt)
	}
}

func TestAnswersAreMemoryOfTheirOwn(t *testing.T) {
	all := []byte("old bytes|behind")
	old, pick, at := all[:9], []byte("picks"), []int{3, 0, -1, 99, 2}
	got, want := answers(old, pick, at), answers(bytes.Clone(old), pick, at)
	places := Apart(old, pick)
	clear(old)
	clear(pick)
	clear(at)
	for i := range got {
		same(t, got[i], want[i], "behind a change of what was handed in the answer", i)
	}
	if !slices.Equal(places, []int{0, 1, 2, 3, 4, 5, 6, 7, 8}) {
		t.Error("behind a change of what was handed in Apart is", places)
	}
	for i := range got { // and they share none with each other
		for p := range got[i] {
			got[i][p] = byte(i)
		}
		got[i] = append(got[i], strings.Repeat("x", 50)...)
	}
	for i := range got {
		same(t, got[i], append(bytes.Repeat([]byte{byte(i)}, 9), strings.Repeat("x", 50)...), "behind changes of the others the answer", i)
	}
	if string(all) != "\x00\x00\x00\x00\x00\x00\x00\x00\x00|behind" {
		t.Errorf("behind a change of answers old is %q", all)
	}
}

// Answers that were changed, or appended to, leave old as it is.
func TestAnAnswerIsNoPieceOfOld(t *testing.T) {
	all := []byte("old bytes|behind")
	for i := range answers(all[:9], []byte("picks"), []int{3, 0, -1, 99, 2}) {
		got := answers(all[:9], []byte("picks"), []int{3, 0, -1, 99, 2})[i]
		clear(got)
		_ = append(got, "xyz"...)
		if string(all) != "old bytes|behind" {
			t.Fatalf("a change of answer %d is one of old: %q", i, all)
		}
	}
}

// Picks that are a piece of old are what stood there ahead of the call.
func TestPicksMayBeAPieceOfOld(t *testing.T) {
	old := []byte("abcdef")
	same(t, Cells(old, []int{1, 2, 3, 4, 5}, old), []byte("aabcde"), "Cells of its own bytes")
	same(t, Cells(old, []int{5, 4, 3, 2, 1, 0}, old), []byte("fedcba"), "Cells of its own bytes turned round")
	same(t, Range(old, 1, 5, old), []byte("aabcde"), "Range of its own bytes")
	same(t, Range(old, 0, 5, old[1:]), []byte("bcdeff"), "Range of its own bytes")
	if l := Apart(old, old[1:]); !slices.Equal(l, []int{0, 1, 2, 3, 4, 5}) {
		t.Error("bytes and a piece of them are apart at", l)
	}
	if l := Apart(old, old); len(l) != 0 {
		t.Error("bytes and the same ones are apart at", l)
	}
	if string(old) != "abcdef" {
		t.Errorf("old is now %q", old)
	}
}

func TestPlacesApartAreMemoryOfTheirOwn(t *testing.T) {
	a, b := []byte("abcdefgh"), []byte("ABCDEFGH")
	first, second := Apart(a, b), Apart(a, b)
	clear(first)
	if !slices.Equal(second, []int{0, 1, 2, 3, 4, 5, 6, 7}) || !slices.Equal(Apart(a, b), second) {
		t.Error("a change of one answer is one of the other")
	}
}

// R6: what was asked ahead plays no part.
func TestAnswersStayTheSame(t *testing.T) {
	old, pick, at := []byte("old bytes"), []byte("picks"), []int{3, 0, -1, 99, 2}
	first := answers(old, pick, at)
	answers([]byte("others"), []byte("more picks"), []int{5, 4})
	Apart(old, pick)
	for i, again := range answers(old, pick, at) {
		same(t, again, first[i], "asked again the answer", i)
	}
}
