package ops

import (
	"strconv"
	"strings"
	"testing"

	"keepsake/api"
)

// chapter is the chapter's table: a row for each higher digit, a column for each lower one.
const chapter = `
0: BRK imp, ORA izx, JAM imp, SLO izx, NOP zp, ORA zp, ASL zp, SLO zp, PHP imp, ORA imm, ASL imp, ANC imm, NOP abs, ORA abs, ASL abs, SLO abs
1: BPL rel, ORA izy, JAM imp, SLO izy, NOP zpx, ORA zpx, ASL zpx, SLO zpx, CLC imp, ORA aby, NOP imp, SLO aby, NOP abx, ORA abx, ASL abx, SLO abx
2: JSR abs, AND izx, JAM imp, RLA izx, BIT zp, AND zp, ROL zp, RLA zp, PLP imp, AND imm, ROL imp, ANC imm, BIT abs, AND abs, ROL abs, RLA abs
3: BMI rel, AND izy, JAM imp, RLA izy, NOP zpx, AND zpx, ROL zpx, RLA zpx, SEC imp, AND aby, NOP imp, RLA aby, NOP abx, AND abx, ROL abx, RLA abx
4: RTI imp, EOR izx, JAM imp, SRE izx, NOP zp, EOR zp, LSR zp, SRE zp, PHA imp, EOR imm, LSR imp, ALR imm, JMP abs, EOR abs, LSR abs, SRE abs
5: BVC rel, EOR izy, JAM imp, SRE izy, NOP zpx, EOR zpx, LSR zpx, SRE zpx, CLI imp, EOR aby, NOP imp, SRE aby, NOP abx, EOR abx, LSR abx, SRE abx
6: RTS imp, ADC izx, JAM imp, RRA izx, NOP zp, ADC zp, ROR zp, RRA zp, PLA imp, ADC imm, ROR imp, ARR imm, JMP ind, ADC abs, ROR abs, RRA abs
7: BVS rel, ADC izy, JAM imp, RRA izy, NOP zpx, ADC zpx, ROR zpx, RRA zpx, SEI imp, ADC aby, NOP imp, RRA aby, NOP abx, ADC abx, ROR abx, RRA abx
8: NOP imm, STA izx, NOP imm, SAX izx, STY zp, STA zp, STX zp, SAX zp, DEY imp, NOP imm, TXA imp, ANE imm, STY abs, STA abs, STX abs, SAX abs
9: BCC rel, STA izy, JAM imp, SHA izy, STY zpx, STA zpx, STX zpy, SAX zpy, TYA imp, STA aby, TXS imp, TAS aby, SHY abx, STA abx, SHX aby, SHA aby
a: LDY imm, LDA izx, LDX imm, LAX izx, LDY zp, LDA zp, LDX zp, LAX zp, TAY imp, LDA imm, TAX imp, LXA imm, LDY abs, LDA abs, LDX abs, LAX abs
b: BCS rel, LDA izy, JAM imp, LAX izy, LDY zpx, LDA zpx, LDX zpy, LAX zpy, CLV imp, LDA aby, TSX imp, LAS aby, LDY abx, LDA abx, LDX aby, LAX aby
c: CPY imm, CMP izx, NOP imm, DCP izx, CPY zp, CMP zp, DEC zp, DCP zp, INY imp, CMP imm, DEX imp, SBX imm, CPY abs, CMP abs, DEC abs, DCP abs
d: BNE rel, CMP izy, JAM imp, DCP izy, NOP zpx, CMP zpx, DEC zpx, DCP zpx, CLD imp, CMP aby, NOP imp, DCP aby, NOP abx, CMP abx, DEC abx, DCP abx
e: CPX imm, SBC izx, NOP imm, ISC izx, CPX zp, SBC zp, INC zp, ISC zp, INX imp, SBC imm, NOP imp, SBC imm, CPX abs, SBC abs, INC abs, ISC abs
f: BEQ rel, SBC izy, JAM imp, ISC izy, NOP zpx, SBC zpx, INC zpx, ISC zpx, SED imp, SBC aby, NOP imp, ISC aby, NOP abx, SBC abx, INC abx, ISC abx
`

// kinds is what each opcode does, reckoned by hand: I Inner, R Reads, W Writes, M Modifies, B Branches, F Flows, + Pushes, - Pulls, J Jams.
const kinds = `
0 FRJMRRMM+RIRRRMM
1 BRJMRRMMIRIMRRMM
2 FRJMRRMM-RIRRRMM
3 BRJMRRMMIRIMRRMM
4 FRJMRRMM+RIRFRMM
5 BRJMRRMMIRIMRRMM
6 FRJMRRMM-RIRFRMM
7 BRJMRRMMIRIMRRMM
8 RWRWWWWWIRIRWWWW
9 BWJWWWWWIWIWWWWW
a RRRRRRRRIRIRRRRR
b BRJRRRRRIRIRRRRR
c RRRMRRMMIRIRRRMM
d BRJMRRMMIRIMRRMM
e RRRMRRMMIRIRRRMM
f BRJMRRMMIRIMRRMM
`

// documented is the names that were documented, each with its opcodes, in hexadecimal; some of these weren't.
const documented = `
ADC 61 65 69 6d 71 75 79 7d
AND 21 25 29 2d 31 35 39 3d
ASL 06 0a 0e 16 1e
BCC 90
BCS b0
BEQ f0
BIT 24 2c
BMI 30
BNE d0
BPL 10
BRK 00
BVC 50
BVS 70
CLC 18
CLD d8
CLI 58
CLV b8
CMP c1 c5 c9 cd d1 d5 d9 dd
CPX e0 e4 ec
CPY c0 c4 cc
DEC c6 ce d6 de
DEX ca
DEY 88
EOR 41 45 49 4d 51 55 59 5d
INC e6 ee f6 fe
INX e8
INY c8
JMP 4c 6c
JSR 20
LDA a1 a5 a9 ad b1 b5 b9 bd
LDX a2 a6 ae b6 be
LDY a0 a4 ac b4 bc
LSR 46 4a 4e 56 5e
NOP 04 0c 14 1a 1c 34 3a 3c 44 54 5a 5c 64 74 7a 7c 80 82 89 c2 d4 da dc e2 ea f4 fa fc
ORA 01 05 09 0d 11 15 19 1d
PHA 48
PHP 08
PLA 68
PLP 28
ROL 26 2a 2e 36 3e
ROR 66 6a 6e 76 7e
RTI 40
RTS 60
SBC e1 e5 e9 eb ed f1 f5 f9 fd
SEC 38
SED f8
SEI 78
STA 81 85 8d 91 95 99 9d
STX 86 8e 96
STY 84 8c 94
TAX aa
TAY a8
TSX ba
TXA 8a
TXS 9a
TYA 98
`

// never is the names that were never documented.
const never = `
ALR 4b
ANC 0b 2b
ANE 8b
ARR 6b
DCP c3 c7 cf d3 d7 db df
ISC e3 e7 ef f3 f7 fb ff
JAM 02 12 22 32 42 52 62 72 92 b2 d2 f2
LAS bb
LAX a3 a7 af b3 b7 bf
LXA ab
RLA 23 27 2f 33 37 3b 3f
RRA 63 67 6f 73 77 7b 7f
SAX 83 87 8f 97
SBX cb
SHA 93 9f
SHX 9e
SHY 9c
SLO 03 07 0f 13 17 1b 1f
SRE 43 47 4f 53 57 5b 5f
TAS 9b
`

// word is an opcode's name and mode, as the chapter has them.
type word struct{ name, mode string }

// words is those of all opcodes, by the chapter's rows and columns.
func words(t *testing.T) [256]word {
	t.Helper()
	var all [256]word
	seen := 0
	for _, line := range lines(chapter) {
		digit, cells, _ := strings.Cut(line, ": ")
		row := number(t, digit)
		for column, cell := range strings.Split(cells, ", ") {
			name, mode, _ := strings.Cut(cell, " ")
			all[row*16+column] = word{name, mode}
			seen++
		}
	}
	if seen != 256 {
		t.Fatalf("the test's table has %d opcodes", seen)
	}
	return all
}

// wanted is all opcodes with their modes and kinds.
func wanted(t *testing.T) [256]api.Op {
	t.Helper()
	var all [256]api.Op
	for code, w := range words(t) {
		mode, known := modeWords()[w.mode]
		if !known {
			t.Fatalf("the test's table has the mode %q", w.mode)
		}
		all[code] = api.Op{Name: w.name, Mode: mode, Kind: -1}
	}
	for _, line := range lines(kinds) {
		digit, signs, _ := strings.Cut(line, " ")
		for column, sign := range []byte(signs) {
			kind, known := kindSigns()[sign]
			if !known {
				t.Fatalf("the test's table has the kind %q", sign)
			}
			all[number(t, digit)*16+column].Kind = kind
		}
	}
	return all
}

func modeWords() map[string]int {
	return map[string]int{
		"imp": 0, "imm": 1, "zp": 2, "zpx": 3, "zpy": 4, "abs": 5, "abx": 6, "aby": 7, "izx": 8, "izy": 9, "rel": 10, "ind": 11,
	}
}

func kindSigns() map[byte]int {
	return map[byte]int{'I': 0, 'R': 1, 'W': 2, 'M': 3, 'B': 4, 'F': 5, '+': 6, '-': 7, 'J': 8}
}

// byName is the opcodes of each name in a text of the test's.
func byName(t *testing.T, text string) map[string][]byte {
	t.Helper()
	all := map[string][]byte{}
	for _, line := range lines(text) {
		name, codes, _ := strings.Cut(line, " ")
		for _, code := range strings.Fields(codes) {
			all[name] = append(all[name], byte(number(t, code)))
		}
	}
	return all
}

func lines(text string) []string {
	return strings.Split(strings.TrimSpace(text), "\n")
}

func number(t *testing.T, digits string) int {
	t.Helper()
	n, err := strconv.ParseUint(digits, 16, 8)
	if err != nil {
		t.Fatal(err)
	}
	return int(n)
}
