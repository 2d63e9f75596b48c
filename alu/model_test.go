package alu

// The model has the chapter's words one by one, in ints, with the flags as the numbers that the chapter tells.

// told is what the chapter tells of a call: the result, the flags that it names, and those of them that are 1.
type told struct{ result, named, ones int }

// flags is p with what is told.
func (x told) flags(p byte) byte {
	return p&^byte(x.named) | byte(x.ones)
}

// one is a flag's number, just if it is 1.
func one(number int, is bool) int {
	if is {
		return number
	}
	return 0
}

// bit is a bit of a byte, or of what is greater.
func bit(v, n int) int {
	for range n {
		v /= 2
	}
	return v % 2
}

// and is of bytes.
func and(a, m int) int {
	out, worth := 0, 1
	for n := range 8 {
		out += bit(a, n) * bit(m, n) * worth
		worth *= 2
	}
	return out
}

// wrapped is modulo 256, from 0 to 255.
func wrapped(v int) int { return (v%256 + 256) % 256 }

// nzBy is N and Z by a byte.
func nzBy(v int) int { return one(128, bit(v, 7) == 1) + one(2, v == 0) }

func toldOfNz(v int) told {
	return told{0, 128 + 2, nzBy(v)}
}

func toldOfCmp(r, m int) told {
	return told{0, 1 + 2 + 128, one(1, !(r < m)) + nzBy(wrapped(r-m))}
}

func toldOfBit(a, m int) told {
	return told{0, 2 + 64 + 128, one(128, bit(m, 7) == 1) + one(64, bit(m, 6) == 1) + one(2, and(a, m) == 0)}
}

func toldOfAsl(m, _ int) told {
	v := m * 2 % 256
	return told{v, 1 + 2 + 128, one(1, bit(m, 7) == 1) + nzBy(v)}
}

func toldOfLsr(m, _ int) told {
	v := m / 2
	return told{v, 1 + 2 + 128, one(1, bit(m, 0) == 1) + nzBy(v)}
}

func toldOfRol(m, c int) told {
	v := m*2%256 + c
	return told{v, 1 + 2 + 128, one(1, bit(m, 7) == 1) + nzBy(v)}
}

func toldOfRor(m, c int) told {
	v := m/2 + c*128
	return told{v, 1 + 2 + 128, one(1, bit(m, 0) == 1) + nzBy(v)}
}

func toldOfAdc(a, m, c, d int) told {
	named := 1 + 2 + 64 + 128
	if d == 0 {
		all := a + m + c
		v := all % 256
		overflow := bit(a, 7) == bit(m, 7) && bit(v, 7) != bit(a, 7)
		return told{v, named, one(1, all >= 256) + one(64, overflow) + nzBy(v)}
	}
	low := a%16 + m%16 + c
	if low >= 10 {
		low = (low+6)%16 + 16
	}
	mid := a - a%16 + m - m%16 + low
	ones := one(128, bit(mid, 7) == 1)
	ones += one(64, bit(a, 7) == bit(m, 7) && bit(mid, 7) != bit(a, 7))
	ones += one(2, (a+m+c)%256 == 0)
	if mid >= 160 {
		mid += 96
	}
	return told{mid % 256, named, ones + one(1, mid >= 256)}
}

func toldOfSbc(a, m, c, d int) told {
	binary := toldOfAdc(a, 255-m, c, 0)
	if d == 0 {
		return binary
	}
	low := a%16 - m%16 - 1 + c
	if low < 0 {
		low = (low-6+32)%16 - 16
	}
	mid := a - a%16 - (m - m%16) + low
	if mid < 0 {
		mid -= 96
	}
	return told{wrapped(mid), binary.named, binary.ones}
}

func toldOfArr(a, m, c, d int) told {
	t := and(a, m)
	v := t/2 + c*128
	x := told{v, 1 + 2 + 64 + 128, nzBy(v)}
	if d == 0 {
		x.ones += one(1, bit(v, 6) == 1) + one(64, bit(v, 6) != bit(v, 5))
		return x
	}
	x.ones += one(64, bit(t, 6) != bit(v, 6))
	if t%16+bit(t, 0) > 5 {
		x.result = x.result - x.result%16 + (x.result%16+6)%16
	}
	if t-t%16+16*bit(t, 4) > 80 {
		x.result = (x.result + 96) % 256
		x.ones++
	}
	return x
}

func toldOfSbx(r, m int) told {
	x := toldOfCmp(r, m)
	x.result = wrapped(r - m)
	return x
}
