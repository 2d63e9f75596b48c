package alu

import (
	"testing"

	"keepsake/api"
)

// P13.7: it follows of the others; here it is seen in what the calls answer alone.

// Where D is 0 a sum is what is carried and the result; with signs it is the result alone, but where V is 1.
func TestASumIsWhatIsCarriedAndTheResult(t *testing.T) {
	for a := range 256 {
		for m := range 256 {
			for c := range 2 {
				v, p := Adc(byte(a), byte(m), byte(c))
				if int(p&api.C)*256+int(v) != a+m+c {
					t.Fatalf("%d, %d and %d are %d, and %d carried", a, m, c, v, p&api.C)
				}
				signed := int(int8(a)) + int(int8(m)) + c
				if (p&api.V == 0) != (signed == int(int8(v))) {
					t.Fatalf("%d, %d and %d are %d, and V is in %02x", int8(a), int8(m), c, int8(v), p)
				}
			}
		}
	}
}

// What is taken away likewise: C 0 is what was borrowed.
func TestADifferenceIsTheResultLessWhatIsBorrowed(t *testing.T) {
	for a := range 256 {
		for m := range 256 {
			for c := range 2 {
				v, p := Sbc(byte(a), byte(m), byte(c))
				if int(v)-(1-int(p&api.C))*256 != a-m-(1-c) {
					t.Fatalf("%d less %d, with C %d, is %d, and C is %d", a, m, c, v, p&api.C)
				}
				signed := int(int8(a)) - int(int8(m)) - (1 - c)
				if (p&api.V == 0) != (signed == int(int8(v))) {
					t.Fatalf("%d less %d, with C %d, is %d, and V is in %02x", int8(a), int8(m), c, int8(v), p)
				}
			}
		}
	}
}

func TestNumbersOfTwoDigitsAreAdded(t *testing.T) {
	for a := range 100 {
		for m := range 100 {
			for c := range 2 {
				v, p := Adc(decimal(a), decimal(m), api.D|byte(c))
				all := a + m + c
				if v != decimal(all%100) || int(p&api.C) != all/100 || p&api.D == 0 {
					t.Fatalf("%d, %d and %d are %02x, and the flags %02x", a, m, c, v, p)
				}
			}
		}
	}
}

func TestNumbersOfTwoDigitsAreTakenAway(t *testing.T) {
	for a := range 100 {
		for m := range 100 {
			for c := range 2 {
				v, p := Sbc(decimal(a), decimal(m), api.D|byte(c))
				rest := a - m - (1 - c)
				borrowed := 0
				if rest < 0 {
					rest, borrowed = rest+100, 1
				}
				if v != decimal(rest) || int(p&api.C) != 1-borrowed || p&api.D == 0 {
					t.Fatalf("%d less %d, with C %d, is %02x, and the flags %02x", a, m, c, v, p)
				}
			}
		}
	}
}

// What was added is taken away again: of all bytes, and of all numbers of two digits.
func TestWhatIsAddedIsTakenAwayAgain(t *testing.T) {
	for a := range 256 {
		for m := range 256 {
			sum, _ := Adc(byte(a), byte(m), 0)
			if v, _ := Sbc(sum, byte(m), api.C); v != byte(a) {
				t.Fatalf("%02x and %02x, less it: %02x", a, m, v)
			}
		}
	}
	for a := range 100 {
		for m := range 100 {
			sum, _ := Adc(decimal(a), decimal(m), api.D)
			if v, _ := Sbc(sum, decimal(m), api.C|api.D); v != decimal(a) {
				t.Fatalf("%d and %d, less it, in decimal: %02x", a, m, v)
			}
		}
	}
}

// Numbers of many digits are added from the lowest on, by what is carried.
func TestNumbersOfManyDigits(t *testing.T) {
	next := chance(13)
	for range 1000 {
		a, m, flags := 0, 0, byte(api.D)
		sum, worth := 0, 1
		for range 6 {
			x, y := int(next())%100, int(next())%100
			a, m = a+x*worth, m+y*worth
			var v byte
			v, flags = Adc(decimal(x), decimal(y), flags)
			sum += (int(v/16)*10 + int(v%16)) * worth
			worth *= 100
		}
		if sum+int(flags&api.C)*worth != a+m {
			t.Fatalf("%d and %d are %d, and %02x", a, m, sum, flags)
		}
	}
}

// What is turned one way is turned back, with what C was.
func TestWhatIsTurnedIsTurnedBack(t *testing.T) {
	for m := range 256 {
		for p := range 256 {
			up, flags := Rol(byte(m), byte(p))
			if v, flags := Ror(up, flags); v != byte(m) || flags != Nz(byte(p), v) {
				t.Fatalf("%02x with flags %02x, up and down: %02x with flags %02x", m, p, v, flags)
			}
			down, flags := Ror(byte(m), byte(p))
			if v, flags := Rol(down, flags); v != byte(m) || flags != Nz(byte(p), v) {
				t.Fatalf("%02x with flags %02x, down and up: %02x with flags %02x", m, p, v, flags)
			}
		}
	}
}

// Nine times round it is as it was, and not before: eight bits, and C.
func TestNineTimesRound(t *testing.T) {
	for name, turn := range map[string]func(m, p byte) (byte, byte){"Rol": Rol, "Ror": Ror} {
		for m := range 256 {
			for p := range 256 {
				v, flags := byte(m), byte(p)
				for range 9 {
					v, flags = turn(v, flags)
				}
				if v != byte(m) || flags != Nz(byte(p), v) {
					t.Fatalf("%s nine times, of %02x with flags %02x: %02x with flags %02x", name, m, p, v, flags)
				}
			}
		}
		for n := 1; n < 9; n++ {
			v, flags := byte(1), byte(0)
			for range n {
				v, flags = turn(v, flags)
			}
			if v == 1 && flags&api.C == 0 {
				t.Errorf("%s %d times is as it was", name, n)
			}
		}
	}
}

// A shift is a turn with C 0 ahead of it.
func TestAShiftIsATurnWithCarryZero(t *testing.T) {
	for m := range 256 {
		for p := range 256 {
			v, flags := Asl(byte(m), byte(p))
			w, turned := Rol(byte(m), byte(p)&^api.C)
			if v != w || flags != turned {
				t.Fatalf("Asl of %02x with flags %02x is %02x, %02x; Rol %02x, %02x", m, p, v, flags, w, turned)
			}
			v, flags = Lsr(byte(m), byte(p))
			w, turned = Ror(byte(m), byte(p)&^api.C)
			if v != w || flags != turned {
				t.Fatalf("Lsr of %02x with flags %02x is %02x, %02x; Ror %02x, %02x", m, p, v, flags, w, turned)
			}
		}
	}
}

// R6: what a call answers hangs on what it is given alone, not on what was called ahead of it.

func TestWhatWasCalledAheadDoesNotCount(t *testing.T) {
	next := chance(6)
	for name, do := range calls() {
		for range 2000 {
			a, m, p := next(), next(), next()
			v, flags := do(a, m, p)
			for _, other := range calls() {
				other(next(), next(), next())
			}
			if w, again := do(a, m, p); v != w || flags != again {
				t.Fatalf("%s of %02x, %02x and flags %02x is %02x and %02x, then %02x and %02x", name, a, m, p, v, flags, w, again)
			}
		}
	}
}
