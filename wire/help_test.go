package wire

import (
	"slices"
	"strings"
	"testing"

	"keepsake/api"
)

// Levels are told by a text, one a cycle: 0 both lines low, 1 the data alone high, 2 the clock alone high, 3 both high.
// Events too: . none, S a start, P a stop, R a rise, F a fall.
// Runs too, with a blank between two: the bits, and a P if a Stop ended them, else a comma.

func levels(text string) []api.Level {
	var l []api.Level
	for _, c := range text {
		l = append(l, level(int(c-'0')))
	}
	return l
}

func level(n int) api.Level {
	return api.Level{Scl: n&2 != 0, Sda: n&1 != 0}
}

func levelsText(l []api.Level) string {
	var b strings.Builder
	for _, x := range l {
		n := 0
		if x.Scl {
			n += 2
		}
		if x.Sda {
			n++
		}
		b.WriteByte(byte('0' + n))
	}
	return b.String()
}

// eventsText has a question mark for a number that is no event's.
func eventsText(l []int) string {
	var b strings.Builder
	for _, e := range l {
		switch e {
		case 0:
			b.WriteByte('.')
		case 1:
			b.WriteByte('S')
		case 2:
			b.WriteByte('P')
		case 3:
			b.WriteByte('R')
		case 4:
			b.WriteByte('F')
		default:
			b.WriteByte('?')
		}
	}
	return b.String()
}

func runsText(l []api.Run) string {
	var out []string
	for _, r := range l {
		out = append(out, bitsText(r.Bits)+map[bool]string{true: "P", false: ","}[r.Stop])
	}
	return strings.Join(out, " ")
}

func bitsText(l []bool) string {
	var text strings.Builder
	for _, b := range l {
		if b {
			text.WriteByte('1')
		} else {
			text.WriteByte('0')
		}
	}
	return text.String()
}

// rows is what each pair of levels tells: the row is the level that was, the column the one that is.
var rows = [4]string{
	"..RR",
	"..RR",
	"FF.P",
	"FFS.",
}

// eventsTold is what P9.1 tells of levels that are a text.
func eventsTold(text string) string {
	was, out := byte('3'), ""
	for i := range len(text) {
		out += rows[was-'0'][text[i]-'0' : text[i]-'0'+1]
		was = text[i]
	}
	return out
}

// runsTold is what P9.2 tells of levels that are a text: each Start looks for its own end, and for the Rises up to there.
func runsTold(text string) string {
	events := eventsTold(text)
	var out []string
	for i := range len(events) {
		if events[i] != 'S' {
			continue
		}
		run, end := "", ","
		for k := i + 1; k < len(events) && events[k] != 'S'; k++ {
			if events[k] == 'P' {
				end = "P"
				break
			}
			if events[k] == 'R' {
				run += map[byte]string{'2': "0", '3': "1"}[text[k]]
			}
		}
		out = append(out, run+end)
	}
	return strings.Join(out, " ")
}

// texts is all levels of at most n cycles.
func texts(n int) []string {
	all := []string{""}
	last := all
	for range n {
		var longer []string
		for _, text := range last {
			for c := byte('0'); c <= '3'; c++ {
				longer = append(longer, text+string(c))
			}
		}
		all, last = append(all, longer...), longer
	}
	return all
}

// chance is numbers below n that look like chance, and are always the same of one seed.
func chance(seed uint64) func(n int) int {
	return func(n int) int {
		seed = seed*6364136223846793005 + 1442695040888963407
		return int(seed>>33) % n
	}
}

// someText is n levels of which either line stays as it was more often than not.
func someText(next func(int) int, n int) string {
	b := make([]byte, n)
	now := 3
	for i := range b {
		now ^= []int{0, 0, 1, 1, 2, 2, 3}[next(7)]
		b[i] = byte('0' + now)
	}
	return string(b)
}

// someBits is n bits as a text.
func someBits(next func(int) int, n int) string {
	b := make([]byte, n)
	for i := range b {
		b[i] = byte('0' + next(2))
	}
	return string(b)
}

// stretched has each level stay for one to four cycles.
func stretched(next func(int) int, text string) string {
	var b strings.Builder
	for i := range len(text) {
		b.WriteString(strings.Repeat(text[i:i+1], 1+next(4)))
	}
	return b.String()
}

func wantEvents(t *testing.T, text, want string) {
	t.Helper()
	if got := eventsText(Events(levels(text))); got != want {
		t.Errorf("the events of %q are %q, want %q", text, got, want)
	}
}

func wantRuns(t *testing.T, text, want string) {
	t.Helper()
	if got := runsText(Runs(levels(text))); got != want {
		t.Errorf("the runs of %q are %q, want %q", text, got, want)
	}
}

// stepped is what a wire tells of levels that are a text.
func stepped(w *Wire, text string) string {
	var l []int
	for _, x := range levels(text) {
		l = append(l, w.Step(x))
	}
	return eventsText(l)
}

func cloned(l []api.Run) []api.Run {
	out := slices.Clone(l)
	for i := range out {
		out[i].Bits = slices.Clone(out[i].Bits)
	}
	return out
}
