package ops

import (
	"bytes"
	"slices"
	"testing"
)

// P14.3: it follows of the others; here it is seen in what the calls answer alone.

func TestEachOpcodeStandsWithItsNameOnce(t *testing.T) {
	for code := range 256 {
		seen := 0
		for _, other := range Codes(Of(byte(code)).Name) {
			if int(other) == code {
				seen++
			}
		}
		if seen != 1 {
			t.Errorf("%02x stands with its name %d times", code, seen)
		}
	}
}

func TestCodesAreThoseWhoseNameItIs(t *testing.T) {
	for code := range 256 {
		name := Of(byte(code)).Name
		var want []byte
		for other := range 256 {
			if Of(byte(other)).Name == name {
				want = append(want, byte(other))
			}
		}
		if codes := Codes(name); !bytes.Equal(codes, want) {
			t.Errorf("%s has the opcodes %x, want %x", name, codes, want)
		}
	}
}

func TestOpcodesWhoseTwoLowestBitsAreOneWereNeverDocumented(t *testing.T) {
	wasNever := byName(t, never)
	for code := 3; code < 256; code += 4 {
		name := Of(byte(code)).Name
		if wasNever[name] == nil && name != "SBC" {
			t.Errorf("%02x is %s", code, name)
		}
	}
}

// Nor does such an opcode's name stand with any other one, but for SBC.
func TestTheirNamesAreTheirOwn(t *testing.T) {
	for code := 3; code < 256; code += 4 {
		name := Of(byte(code)).Name
		for _, other := range Codes(name) {
			if other%4 != 3 && name != "SBC" {
				t.Errorf("%02x and %02x are %s", code, other, name)
			}
		}
	}
	if Of(0xeb) != Of(0xe9) {
		t.Errorf("eb is %v, and e9 %v", Of(0xeb), Of(0xe9))
	}
}

// Codes of every text that is near a name, or a piece of the table.

func TestEveryNameWithAByteChanged(t *testing.T) {
	all := allNames(t)
	for name := range all {
		for at := range name {
			for v := range 256 {
				b := []byte(name)
				b[at] = byte(v)
				wantCodes(t, string(b), all)
			}
		}
	}
}

func TestEveryNameWithAByteMoreOrLess(t *testing.T) {
	all := allNames(t)
	for name := range all {
		for at := range len(name) + 1 {
			for v := range 256 {
				wantCodes(t, name[:at]+string([]byte{byte(v)})+name[at:], all)
			}
		}
		for at := range name {
			wantCodes(t, name[:at]+name[at+1:], all)
		}
	}
}

func TestEveryPieceOfTheTable(t *testing.T) {
	all := allNames(t)
	var names, both []byte
	for _, w := range words(t) {
		names = append(names, w.name...)
		both = append(both, w.name+w.mode...)
	}
	for _, text := range []string{string(names), string(both), chapter, table} {
		for from := range text {
			for long := range 10 {
				if from+long <= len(text) {
					wantCodes(t, text[from:from+long], all)
				}
			}
		}
	}
}

func TestEveryTextOfThreeCapitals(t *testing.T) {
	all := allNames(t)
	for n := range 26 * 26 * 26 {
		wantCodes(t, string([]byte{'A' + byte(n/26/26), 'A' + byte(n/26%26), 'A' + byte(n%26)}), all)
	}
}

func TestEveryTextOfOneByteOrTwo(t *testing.T) {
	for n := range 256 * 257 {
		b := []byte{byte(n / 256), byte(n)}
		if n >= 256*256 {
			b = b[1:]
		}
		if codes := Codes(string(b)); len(codes) != 0 {
			t.Fatalf("%q has the opcodes %x", b, codes)
		}
	}
}

// R6: what was called ahead doesn't count.

func TestWhatWasCalledAheadDoesNotCount(t *testing.T) {
	want, all := wanted(t), allNames(t)
	next := chance(14)
	for range 2000 {
		code := next()
		if op := Of(code); op != want[code] {
			t.Fatalf("%02x is %v, want %v", code, op, want[code])
		}
		name := want[next()].Name
		switch next() % 3 {
		case 0:
			clear(Codes(name))
		case 1:
			Codes(name[1:])
			Size(int(next()))
		}
		wantCodes(t, name, all)
		if op := Of(code); Size(op.Mode) != []int{1, 2, 2, 2, 2, 3, 3, 3, 2, 2, 2, 3}[op.Mode] {
			t.Fatalf("%v has %d bytes", op, Size(op.Mode))
		}
	}
}

func TestOfManyAtOnce(t *testing.T) {
	want, all := wanted(t), allNames(t)
	for range 8 {
		t.Run("", func(t *testing.T) {
			t.Parallel()
			for code := range 256 {
				if op := Of(byte(code)); op != want[code] {
					t.Errorf("%02x is %v, want %v", code, op, want[code])
				}
			}
			for name, codes := range all {
				if l := Codes(name); !slices.Equal(l, codes) {
					t.Errorf("%s has the opcodes %x, want %x", name, l, codes)
				}
			}
		})
	}
}
