package ops

import (
	"bytes"
	"maps"
	"math"
	"slices"
	"strings"
	"testing"

	"keepsake/api"
)

// The calls are the chapter's.
var (
	_ func(code byte) api.Op   = Of
	_ func(mode int) int       = Size
	_ func(name string) []byte = Codes
)

func TestTheExampleOfTheChapter(t *testing.T) {
	want := api.Op{Name: "LDA", Mode: api.Imm, Kind: api.Reads}
	if op := Of(0xa9); op != want || Size(op.Mode) != 2 {
		t.Errorf("a9 is %v, of %d bytes", op, Size(op.Mode))
	}
}

// P14.1: Of

func TestEveryOpcode(t *testing.T) {
	for code, want := range wanted(t) {
		if op := Of(byte(code)); op != want {
			t.Errorf("%02x is %v, want %v", code, op, want)
		}
	}
}

// The numbers are the document's, whatever package api calls them.
func TestModesAndKindsInNumbers(t *testing.T) {
	for code, want := range map[byte]api.Op{
		0xea: {Name: "NOP", Mode: 0, Kind: 0}, 0xa9: {Name: "LDA", Mode: 1, Kind: 1}, 0xa5: {Name: "LDA", Mode: 2, Kind: 1}, 0x95: {Name: "STA", Mode: 3, Kind: 2},
		0x96: {Name: "STX", Mode: 4, Kind: 2}, 0xee: {Name: "INC", Mode: 5, Kind: 3}, 0x1e: {Name: "ASL", Mode: 6, Kind: 3}, 0xbe: {Name: "LDX", Mode: 7, Kind: 1},
		0x61: {Name: "ADC", Mode: 8, Kind: 1}, 0x91: {Name: "STA", Mode: 9, Kind: 2}, 0xd0: {Name: "BNE", Mode: 10, Kind: 4}, 0x6c: {Name: "JMP", Mode: 11, Kind: 5},
		0x48: {Name: "PHA", Mode: 0, Kind: 6}, 0x68: {Name: "PLA", Mode: 0, Kind: 7}, 0x02: {Name: "JAM", Mode: 0, Kind: 8},
	} {
		if op := Of(code); op != want {
			t.Errorf("%02x is %v, want %v", code, op, want)
		}
	}
}

// The words: the kinds by name and mode

func TestKindsThatTheNameTells(t *testing.T) {
	for kind, names := range map[int]string{
		api.Jams:   "JAM",
		api.Pushes: "PHA PHP",
		api.Pulls:  "PLA PLP",
		api.Flows:  "BRK JSR RTI RTS JMP",
		api.Writes: "STA STX STY SAX SHA SHX SHY TAS",
	} {
		for code := range 256 {
			op := Of(byte(code))
			named := slices.Contains(strings.Fields(names), op.Name)
			if named != (op.Kind == kind) {
				t.Errorf("%02x is %v: the kind %d is of %s", code, op, kind, names)
			}
		}
	}
}

func TestBranchesAreThoseOfTheModeRel(t *testing.T) {
	for code := range 256 {
		if op := Of(byte(code)); (op.Mode == api.Rel) != (op.Kind == api.Branches) {
			t.Errorf("%02x is %v", code, op)
		}
	}
}

func TestModifiesAreOfAnotherModeThanImp(t *testing.T) {
	names := strings.Fields("ASL LSR ROL ROR INC DEC SLO RLA SRE RRA DCP ISC")
	for code := range 256 {
		op := Of(byte(code))
		want := slices.Contains(names, op.Name) && op.Mode != api.Imp
		if want != (op.Kind == api.Modifies) {
			t.Errorf("%02x is %v", code, op)
		}
	}
}

func TestAllOthersAreInnerOrRead(t *testing.T) {
	for code := range 256 {
		op := Of(byte(code))
		switch op.Kind {
		case api.Inner:
			if op.Mode != api.Imp {
				t.Errorf("%02x is %v", code, op)
			}
		case api.Reads:
			if op.Mode == api.Imp {
				t.Errorf("%02x is %v", code, op)
			}
		}
	}
}

func TestHowManyOpcodesAreOfAKind(t *testing.T) {
	many := map[int]int{}
	for code := range 256 {
		many[Of(byte(code)).Kind]++
	}
	want := map[int]int{
		api.Inner:    4 + 8 + 16,            // of rows 0 to 7 the even ones have one, and the odd ones two; so have all rows from 8 on
		api.Reads:    110,                   // the rest
		api.Writes:   10 + 12,               // of rows 8 and 9
		api.Modifies: 4*5 + 4*6 + 2*5 + 2*6, // even and odd rows to 7, rows c and e, d and f
		api.Branches: 8, api.Flows: 6, api.Pushes: 2, api.Pulls: 2, api.Jams: 12,
	}
	if !maps.Equal(many, want) {
		t.Errorf("kinds have %v opcodes, want %v", many, want)
	}
}

// A name's kind hangs on the mode of these alone.
func TestNamesThatHaveTwoKinds(t *testing.T) {
	of := map[string]map[int]bool{}
	for code := range 256 {
		op := Of(byte(code))
		if of[op.Name] == nil {
			of[op.Name] = map[int]bool{}
		}
		of[op.Name][op.Kind] = true
	}
	want := map[string][]int{
		"ASL": {api.Inner, api.Modifies}, "LSR": {api.Inner, api.Modifies}, "ROL": {api.Inner, api.Modifies}, "ROR": {api.Inner, api.Modifies},
		"NOP": {api.Inner, api.Reads},
	}
	for name, kinds := range of {
		l := slices.Sorted(maps.Keys(kinds))
		if len(l) > 1 && !slices.Equal(l, want[name]) || len(l) == 1 && want[name] != nil {
			t.Errorf("%s has the kinds %v, want %v", name, l, want[name])
		}
	}
	for _, code := range []byte{0x0a, 0x2a, 0x4a, 0x6a, 0xea} {
		if op := Of(code); op.Mode != api.Imp || op.Kind != api.Inner {
			t.Errorf("%02x is %v", code, op)
		}
	}
}

// P14.1: Size

func TestSizeOfEveryMode(t *testing.T) {
	want := []int{1, 2, 2, 2, 2, 3, 3, 3, 2, 2, 2, 3}
	for mode, size := range want {
		if n := Size(mode); n != size {
			t.Errorf("the mode %d has %d bytes, want %d", mode, n, size)
		}
	}
	for size, modes := range map[int][]int{
		1: {api.Imp},
		2: {api.Imm, api.Zp, api.Zpx, api.Zpy, api.Izx, api.Izy, api.Rel},
		3: {api.Abs, api.Abx, api.Aby, api.Ind},
	} {
		for _, mode := range modes {
			if n := Size(mode); n != size {
				t.Errorf("the mode %d has %d bytes, want %d", mode, n, size)
			}
		}
	}
}

func TestSizeOfNumbersThatAreNoMode(t *testing.T) {
	wrong := []int{math.MinInt, math.MaxInt, math.MinInt32, math.MaxInt32}
	for n := range 1000 {
		wrong = append(wrong, -1-n, 12+n)
	}
	for bit := range 60 {
		for mode := range 12 {
			wrong = append(wrong, mode+16<<bit, mode-16<<bit) // a mode in its lowest bits doesn't make it one
		}
	}
	for _, mode := range wrong {
		if n := Size(mode); n != 0 {
			t.Errorf("the mode %d has %d bytes, want 0", mode, n)
		}
	}
}

// P14.2

func TestCodesOfEveryName(t *testing.T) {
	all := allNames(t)
	if len(all) != 76 {
		t.Fatalf("the test's table has %d names", len(all))
	}
	for name, want := range all {
		if codes := Codes(name); !bytes.Equal(codes, want) {
			t.Errorf("%s has the opcodes %x, want %x", name, codes, want)
		}
	}
}

func TestCodesAreRising(t *testing.T) {
	for name := range allNames(t) {
		codes := Codes(name)
		for i := 1; i < len(codes); i++ {
			if codes[i-1] >= codes[i] {
				t.Errorf("%s has the opcodes %x", name, codes)
			}
		}
	}
}

func TestCodesOfAllNamesAreAllOpcodes(t *testing.T) {
	var all []byte
	for name := range allNames(t) {
		all = append(all, Codes(name)...)
	}
	slices.Sort(all)
	for code := range 256 {
		if len(all) != 256 || all[code] != byte(code) {
			t.Fatalf("all names have %d opcodes: %x", len(all), all)
		}
	}
}

func TestCodesOfNamesThatAreNotThere(t *testing.T) {
	for _, name := range []string{
		"", "L", "LD", "DA", "A", "LDAA", "LDAX", "LDA LDA", "LDALDA", "LLDA", "XLDA", // parts, and longer ones
		"lda", "Lda", "LDa", "brk", "jam", "jAM", // small letters
		"KOR", "RKO", "RKORA", "BRKORA", "MSL", "AJA", "PRI", "JBP", // where two of a row, or of two rows, touch
		" LDA", "LDA ", "LDA\n", "\x00LDA", "LDA\x00", "L DA", " DA", "LD ", "   ", ", L", // no letters
		"imp", "imm", "zp", "zp ", "zpx", "zpy", "abs", "abx", "aby", "izx", "izy", "rel", "ind", "LDA imm", "LDA:imm", "LDAimm", "DA:", ":im", "A i", // modes
		"DOP", "TOP", "KIL", "HLT", "XAA", "ASR", "AXS", "ISB", "LAR", "SHS", "INS", "ASO", "OAL", "AHX", // what others call some of them
		"LDB", "ABC", "ZZZ", "AAA", "a9", "A9", "\xa9", "169", "0xa9",
	} {
		if codes := Codes(name); len(codes) != 0 {
			t.Errorf("%q has the opcodes %x", name, codes)
		}
	}
}

func TestCodesOfWhatIsNoText(t *testing.T) {
	for _, name := range []string{
		"\xff", "\xff\xff\xff", "\xfe\xff\xfd", "\x00", "\x00\x00\x00", "LD\xc1", "\xccDA", "L\xc4A", "LDA\xff", "\xffLDA", "\x80\x80\x80", "L\u00c4", "\u0141DA", "\U0001f600", "LD\u0410", "ＬＤＡ", "\ufeffLDA", "\xef\xbf\xbd",
	} {
		if codes := Codes(name); len(codes) != 0 {
			t.Errorf("%q has the opcodes %x", name, codes)
		}
	}
}

func TestCodesOfLongNames(t *testing.T) {
	for _, name := range []string{
		strings.Repeat("LDA", 1<<20), "LDA" + strings.Repeat(" ", 1<<20), strings.Repeat("\x00", 1<<20), strings.Repeat("\xff", 1<<20), chapter, table,
	} {
		if codes := Codes(name); len(codes) != 0 {
			t.Errorf("%d bytes have the opcodes %x", len(name), codes)
		}
	}
}

// A name that isn't a piece of any text of the program's.
func TestCodesOfANameThatIsMadeHere(t *testing.T) {
	b := []byte{'J', 'M', 'P'}
	if codes := Codes(string(b)); !bytes.Equal(codes, []byte{0x4c, 0x6c}) {
		t.Errorf("%s has the opcodes %x", b, codes)
	}
}

// R5

func TestWhatCodesAnswersIsTheCallersOwn(t *testing.T) {
	for name, want := range allNames(t) {
		one, two := Codes(name), Codes(name)
		for i := range one {
			one[i] ^= 0xff
		}
		one = append(one[:0], "something that is longer than all opcodes of a name"...)
		if !bytes.Equal(two, want) || !bytes.Equal(Codes(name), want) {
			t.Errorf("%s has the opcodes %x, and %x, want %x", name, two, Codes(name), want)
		}
		for _, code := range want {
			if Of(code).Name != name {
				t.Errorf("%02x is %v, want the name %s", code, Of(code), name)
			}
		}
	}
}
