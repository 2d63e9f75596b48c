package alu

import "testing"

// A call of all operands, whichever of them it takes; of one that has no result it is 0.
type call func(a, m, p byte) (byte, byte)

// calls is every call by its name.
func calls() map[string]call {
	return map[string]call{
		"Nz":  func(_, m, p byte) (byte, byte) { return 0, Nz(p, m) },
		"Cmp": func(a, m, p byte) (byte, byte) { return 0, Cmp(a, m, p) },
		"Bit": func(a, m, p byte) (byte, byte) { return 0, Bit(a, m, p) },
		"Asl": func(_, m, p byte) (byte, byte) { return Asl(m, p) },
		"Lsr": func(_, m, p byte) (byte, byte) { return Lsr(m, p) },
		"Rol": func(_, m, p byte) (byte, byte) { return Rol(m, p) },
		"Ror": func(_, m, p byte) (byte, byte) { return Ror(m, p) },
		"Adc": Adc,
		"Sbc": Sbc,
		"Arr": Arr,
		"Sbx": Sbx,
	}
}

// line is a call's operands, and what it answers.
type line struct{ a, m, p, v, flags byte }

func wantLines(t *testing.T, name string, lines []line) {
	t.Helper()
	for _, x := range lines {
		if v, flags := calls()[name](x.a, x.m, x.p); v != x.v || flags != x.flags {
			t.Errorf("%s of %02x, %02x and flags %02x is %02x and flags %02x, want %02x and %02x", name, x.a, x.m, x.p, v, flags, x.v, x.flags)
		}
	}
}

// wantOfEveryByte holds a call that takes one byte against the model, with all flags.
func wantOfEveryByte(t *testing.T, name string, model func(m, c int) told) {
	t.Helper()
	do := calls()[name]
	for m := range 256 {
		for p := range 256 {
			want := model(m, p%2)
			if v, flags := do(0, byte(m), byte(p)); int(v) != want.result || flags != want.flags(byte(p)) {
				t.Fatalf("%s of %02x and flags %02x is %02x and flags %02x, want %02x and %02x", name, m, p, v, flags, want.result, want.flags(byte(p)))
			}
		}
	}
}

// wantOfEveryPair holds a call that takes two bytes against the model, with all flags.
func wantOfEveryPair(t *testing.T, name string, model func(a, m, c, d int) told) {
	t.Helper()
	t.Parallel()
	do := calls()[name]
	for a := range 256 {
		for m := range 256 {
			var want [2][2]told
			for c := range 2 {
				want[c][0], want[c][1] = model(a, m, c, 0), model(a, m, c, 1)
			}
			for p := range 256 {
				x := want[p%2][p/8%2]
				if v, flags := do(byte(a), byte(m), byte(p)); int(v) != x.result || flags != x.flags(byte(p)) {
					t.Fatalf("%s of %02x, %02x and flags %02x is %02x and flags %02x, want %02x and %02x", name, a, m, p, v, flags, x.result, x.flags(byte(p)))
				}
			}
		}
	}
}

// whatever is a model of a call that C and D don't touch.
func whatever(model func(a, m int) told) func(a, m, c, d int) told {
	return func(a, m, _, _ int) told { return model(a, m) }
}

// wantKept holds that a call leaves every flag but those that it names as it was.
func wantKept(t *testing.T, name string, named byte) {
	t.Helper()
	do := calls()[name]
	for a := range 256 {
		for m := range 256 {
			for _, c := range []byte{0, 1} {
				for _, d := range []byte{0, 8} {
					for _, others := range []byte{0, 0xf6} {
						p := others | c | d
						if _, flags := do(byte(a), byte(m), p); flags&^named != p&^named {
							t.Fatalf("%s of %02x, %02x and flags %02x has flags %02x: not as they were", name, a, m, p, flags)
						}
					}
				}
			}
		}
	}
}

// decimal is a number from 0 to 99 as two digits.
func decimal(n int) byte { return byte(n/10*16 + n%10) }

// chance is bytes that look like chance, and are always the same of one seed.
func chance(seed uint64) func() byte {
	return func() byte {
		seed = seed*6364136223846793005 + 1442695040888963407
		return byte(seed >> 33)
	}
}
