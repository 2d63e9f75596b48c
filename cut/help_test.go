package cut

import (
	"bytes"
	"math"
	"slices"
	"testing"
	"time"
)

// The words are told here place by place: each asks which pick it has, if any. So nothing hangs on the order in which the program goes through them.

// cellsTold is what P8.1 tells.
func cellsTold(old []byte, at []int, pick []byte) []byte {
	var out []byte
	for p, b := range old {
		for i := min(len(at), len(pick)) - 1; i >= 0; i-- {
			if at[i] == p {
				b = pick[i]
				break
			}
		}
		out = append(out, b)
	}
	return out
}

// rangeTold is what P8.2 tells. What is between two ints, the lower one first, fits 64 bits without a sign.
func rangeTold(old []byte, from, many int, pick []byte) []byte {
	var out []byte
	for p, b := range old {
		if between := uint64(p) - uint64(from); p >= from && many > 0 && between < uint64(many) && between < uint64(len(pick)) {
			b = pick[between]
		}
		out = append(out, b)
	}
	return out
}

// programTold is what P8.3 tells, bit by bit.
func programTold(old []byte, at int, pick byte) []byte {
	var out []byte
	for p, b := range old {
		for bit := byte(128); p == at && bit > 0; bit /= 2 {
			if b&bit != 0 && pick&bit == 0 {
				b -= bit
			}
		}
		out = append(out, b)
	}
	return out
}

// apartTold is what P8.4 tells: no number is a byte that isn't there.
func apartTold(a, b []byte) []int {
	longest := max(len(a), len(b))
	var out []int
	for p := range longest {
		x, y := -1, -1
		if p < len(a) {
			x = int(a[p])
		}
		if p < len(b) {
			y = int(b[p])
		}
		if x != y {
			out = append(out, p)
		}
	}
	return out
}

// chance is numbers below n that look like chance, and are always the same of one seed.
func chance(seed uint64) func(n int) int {
	return func(n int) int {
		seed = seed*6364136223846793005 + 1442695040888963407
		return int(seed>>33) % n
	}
}

func someBytes(next func(int) int, n int) []byte {
	b := make([]byte, n)
	for i := range b {
		b[i] = byte(next(256))
	}
	return b
}

// somePlaces has places of a list of long bytes, and some that it hasn't.
func somePlaces(next func(int) int, n, long int) []int {
	far := outside(long)
	l := make([]int, n)
	for i := range l {
		l[i] = next(long + 1)
		if next(5) == 0 {
			l[i] = far[next(len(far))]
		}
	}
	return l
}

// outside are places that a list of long bytes hasn't: next to its ends, far from them, and such whose lowest bits alone it would have.
func outside(long int) []int {
	out := []int{-1, -2, -long - 1, long, long + 1, 2*long + 1}
	for shift := 16; shift <= 62; shift++ {
		for low := range 3 {
			out = append(out, 1<<shift+low, -(1<<shift)+low)
		}
	}
	return append(out, math.MinInt, math.MinInt+1, math.MinInt+2, math.MaxInt-1, math.MaxInt)
}

// counted is the bytes from first on.
func counted(first byte, n int) []byte {
	b := make([]byte, n)
	for i := range b {
		b[i] = first + byte(i)
	}
	return b
}

// lists are all lists of up to most of those numbers.
func lists[T any](most int, of ...T) [][]T {
	out := [][]T{nil}
	for begin := 0; most > 0; most-- {
		end := len(out)
		for _, l := range out[begin:end] {
			for _, x := range of {
				out = append(out, append(slices.Clone(l), x))
			}
		}
		begin = end
	}
	return out
}

func same(t *testing.T, got, want []byte, call string, with ...any) {
	t.Helper()
	if !bytes.Equal(got, want) {
		t.Errorf("%s of %v is %v, want %v", call, with, got, want)
	}
}

// soon fails a test of calls that take long, but for the slowest of machines.
func soon(t *testing.T, calls func()) {
	t.Helper()
	done := make(chan bool)
	go func() {
		defer close(done)
		calls()
	}()
	select {
	case <-done:
	case <-time.After(time.Minute):
		t.Fatal("it takes too long")
	}
}
