package wire

import (
	"slices"
	"strings"
	"testing"

	"keepsake/api"
)

// P9.1

func TestStepFromEachLevelToEach(t *testing.T) {
	for _, x := range []struct {
		was, is api.Level
		want    int
	}{
		{api.Level{Scl: false, Sda: false}, api.Level{Scl: false, Sda: false}, 0},
		{api.Level{Scl: false, Sda: false}, api.Level{Scl: false, Sda: true}, 0},
		{api.Level{Scl: false, Sda: false}, api.Level{Scl: true, Sda: false}, 3},
		{api.Level{Scl: false, Sda: false}, api.Level{Scl: true, Sda: true}, 3},
		{api.Level{Scl: false, Sda: true}, api.Level{Scl: false, Sda: false}, 0},
		{api.Level{Scl: false, Sda: true}, api.Level{Scl: false, Sda: true}, 0},
		{api.Level{Scl: false, Sda: true}, api.Level{Scl: true, Sda: false}, 3},
		{api.Level{Scl: false, Sda: true}, api.Level{Scl: true, Sda: true}, 3},
		{api.Level{Scl: true, Sda: false}, api.Level{Scl: false, Sda: false}, 4},
		{api.Level{Scl: true, Sda: false}, api.Level{Scl: false, Sda: true}, 4},
		{api.Level{Scl: true, Sda: false}, api.Level{Scl: true, Sda: false}, 0},
		{api.Level{Scl: true, Sda: false}, api.Level{Scl: true, Sda: true}, 2},
		{api.Level{Scl: true, Sda: true}, api.Level{Scl: false, Sda: false}, 4},
		{api.Level{Scl: true, Sda: true}, api.Level{Scl: false, Sda: true}, 4},
		{api.Level{Scl: true, Sda: true}, api.Level{Scl: true, Sda: false}, 1},
		{api.Level{Scl: true, Sda: true}, api.Level{Scl: true, Sda: true}, 0},
	} {
		w := New()
		w.Step(x.was)
		if e := w.Step(x.is); e != x.want {
			t.Errorf("from %v to %v is %d, want %d", x.was, x.is, e, x.want)
		}
	}
}

// Whatever was ahead of the last level, what a step tells hangs on that one alone.
func TestStepHangsOnTheLastLevelAlone(t *testing.T) {
	for _, past := range texts(4) {
		for was := range 4 {
			for is := range 4 {
				w := New()
				stepped(w, past)
				w.Step(level(was))
				if got, want := eventsText([]int{w.Step(level(is))}), rows[was][is:is+1]; got != want {
					t.Errorf("behind %q from %d to %d is %s, want %s", past, was, is, got, want)
				}
			}
		}
	}
}

func TestStepAheadOfTheFirstCycle(t *testing.T) {
	for text, want := range map[string]string{"3": ".", "2": "S", "1": "F", "0": "F"} {
		if got := stepped(New(), text); got != want {
			t.Errorf("a new wire tells %s of %s, want %s", got, text, want)
		}
		wantEvents(t, text, want)
	}
}

func TestStepOfTheChapter(t *testing.T) {
	if got := stepped(New(), "20133"); got != "SF.R." {
		t.Error(got)
	}
	wantEvents(t, "20133", "SF.R.")
	wantRuns(t, "20133", "1,")
}

func TestLinesThatStayTellNothing(t *testing.T) {
	for n := range 4 {
		w := New()
		w.Step(level(n))
		for range 100 {
			if e := w.Step(level(n)); e != api.None {
				t.Fatalf("the level %d, that stays, tells %d", n, e)
			}
		}
	}
}

func TestEventsInNumbers(t *testing.T) {
	for text, want := range map[string]string{
		"":             "",
		"333":          "...",
		"222":          "S..",
		"2323":         "SPSP",
		"0123":         "F.RP",
		"1032":         "F.RS",
		"1010":         "F...",
		"0303":         "FRFR", // both lines change: the clock alone counts
		"1212":         "FRFR",
		"3210":         ".SF.",
		"1321":         "FRSF",
		"201310230202": "SF.RF.RPFRFR",
		"320213200233": ".SFRFRSF.RP.",
	} {
		wantEvents(t, text, want)
	}
}

func TestEventsOfAllShortLists(t *testing.T) {
	for _, text := range texts(8) {
		wantEvents(t, text, eventsTold(text))
	}
}

func TestEventsAreStepsOneBehindTheOther(t *testing.T) {
	for _, text := range texts(6) {
		if got := stepped(New(), text); got != eventsText(Events(levels(text))) {
			t.Errorf("a new wire tells %q of %q, and Events don't", got, text)
		}
	}
}

func TestEventsOfLongLists(t *testing.T) {
	next := chance(1)
	for range 300 {
		text := someText(next, next(2000))
		wantEvents(t, text, eventsTold(text))
	}
	long := someText(next, 200000)
	if got := eventsText(Events(levels(long))); got != stepped(New(), long) {
		t.Error("the events of 200000 levels aren't the steps of a wire")
	}
}

// What comes later changes nothing of what was told till then, and Events begin anew each time.
func TestEventsOfAPieceArePiecesOfThem(t *testing.T) {
	next := chance(2)
	for range 200 {
		text := someText(next, 1+next(60))
		at := next(len(text))
		whole := eventsText(Events(levels(text)))
		wantEvents(t, text[:at], whole[:at])
		w := New()
		stepped(w, text[:at])
		wantEvents(t, text[at:], eventsTold(text[at:]))
		if got := stepped(w, text[at:]); got != whole[at:] {
			t.Errorf("a wire that goes on behind %q tells %q of %q, want %q", text[:at], got, text[at:], whole[at:])
		}
	}
}

func TestTwoWiresChangeNothingOfEachOther(t *testing.T) {
	for _, a := range texts(4) {
		for _, b := range texts(3) {
			x, y := New(), New()
			var ofA, ofB string
			for i := range max(len(a), len(b)) {
				if i < len(a) {
					ofA += stepped(x, a[i:i+1])
				}
				if i < len(b) {
					ofB += stepped(y, b[i:i+1])
				}
			}
			if ofA != eventsTold(a) || ofB != eventsTold(b) {
				t.Errorf("beside each other wires tell %q of %q, and %q of %q", ofA, a, ofB, b)
			}
		}
	}
}

func TestManyWiresBesideEachOther(t *testing.T) {
	next := chance(3)
	var all []*Wire
	var told, past []string
	for range 20000 {
		if len(all) < 40 && next(50) == 0 || len(all) == 0 {
			all, told, past = append(all, New()), append(told, ""), append(past, "")
		}
		i, text := next(len(all)), someText(next, 1+next(3))
		told[i] += stepped(all[i], text)
		past[i] += text
		Events(levels(text))
		Runs(levels(text))
	}
	for i := range all {
		if told[i] != eventsTold(past[i]) {
			t.Errorf("wire %d of %d tells other events than alone", i, len(all))
		}
	}
}

// P9.2

func TestRunsInNumbers(t *testing.T) {
	for text, want := range map[string]string{
		"":              "",
		"3":             "",
		"33333":         "",
		"2":             ",", // no bits, and the end cuts it
		"23":            "P", // no bits, and a Stop
		"232323":        "P P P",
		"2223333":       "P", // levels that stay
		"22001113332":   "1, ,",
		"2013":          "1,",
		"2002":          "0,",
		"201301":        "1,",
		"2012":          "0,", // the data changes with the Rise
		"2003":          "1,",
		"20030203120":   "1010,",
		"201302023":     "100P", // the last 0 is of the Rise ahead of the Stop
		"20132":         "1, ,", // a Start behind a Start
		"20132132132":   "1, 1, 1, ,",
		"20132023":      "1, 0P",
		"2013202":       "1, 0,",
		"0303030":       "", // Rises ahead of the first Start
		"0303021320202": "00,",
		"1321":          ",",
		"023":           "", // a Stop without a Start
		"0230303":       "",
		"023202":        "0,",
		"0232023":       "0P",
		"230303":        "P", // Rises behind a Stop
		"2302023":       "P",
		"20230303":      "0P",
		"23020302132":   "P ,",
		"2302132023":    "P 0P",
	} {
		wantRuns(t, text, want)
	}
}

func TestRunsOfAllShortLists(t *testing.T) {
	for _, text := range texts(8) {
		wantRuns(t, text, runsTold(text))
	}
}

func TestRunsOfLongLists(t *testing.T) {
	next := chance(4)
	for range 300 {
		text := someText(next, next(2000))
		wantRuns(t, text, runsTold(text))
	}
}

// The bit of a Rise is the data behind it, whatever it was ahead of it, and whatever it is while the clock stays high or falls.
func TestTheBitOfARise(t *testing.T) {
	for _, ahead := range "01" {
		for behind, bit := range map[string]string{"2": "0", "3": "1"} {
			for _, fallen := range "01" {
				text := "2" + string(ahead) + behind + behind + string(fallen)
				wantRuns(t, text, bit+",")
				wantRuns(t, text+"2", bit+"0,")
				wantRuns(t, text+"3", bit+"1,")
			}
		}
	}
}

// Runs that are sent by the lines are told as they were sent: a run's Start, its bits, and its Stop, or the next Start.
func TestRunsThatAreSentAreTold(t *testing.T) {
	next := chance(5)
	for range 500 {
		text, want := "", []string{}
		for range next(6) {
			sent, bits := someBits(next, next(40)), ""
			text += "32"
			for _, b := range sent {
				text += "0" + map[byte]string{'0': "02", '1': "13"}[byte(b)] + map[byte]string{'0': "20", '1': "31"}[byte(b)]
				bits += string(b)
			}
			if next(2) == 0 {
				text, want = text+"0023", append(want, bits+"0P")
			} else {
				text, want = text+"0113", append(want, bits+"1,")
			}
		}
		wantRuns(t, text, strings.Join(want, " "))
		wantRuns(t, stretched(next, text), strings.Join(want, " "))
	}
}

// A level that stays for some cycles changes no run.
func TestRunsOfLevelsThatStay(t *testing.T) {
	next := chance(6)
	for _, text := range texts(6) {
		wantRuns(t, stretched(next, text), runsTold(text))
	}
}

func TestRunsOfManyBits(t *testing.T) {
	next := chance(7)
	sent := someBits(next, 100000)
	var text strings.Builder
	text.WriteString("2")
	for _, b := range sent {
		text.WriteString(map[rune]string{'0': "02", '1': "13"}[b])
	}
	wantRuns(t, text.String(), sent+",")
	wantRuns(t, text.String()+"023", sent+"0P")
}

func TestManyRuns(t *testing.T) {
	const n = 30000
	wantRuns(t, strings.Repeat("20130203", n), strings.TrimSpace(strings.Repeat("101, ", n)))
	wantRuns(t, strings.Repeat("200202023", n), strings.TrimSpace(strings.Repeat("000P ", n)))
	wantRuns(t, strings.Repeat("23", n), strings.TrimSpace(strings.Repeat("P ", n)))
}

// P9.3

// follows asks P9.3 of a list: the clock's Rises and Falls take turns, from a Fall on, as it is high ahead of the first cycle.
func follows(t *testing.T, text string) {
	t.Helper()
	l := levels(text)
	last := api.Rise
	for i, e := range Events(l) {
		switch {
		case e == api.Rise || e == api.Fall:
			if e == last {
				t.Errorf("of %q: cycle %d tells %d once more", text, i, e)
			}
			last = e
		case (e == api.Start || e == api.Stop) && (!l[i].Scl || i > 0 && !l[i-1].Scl):
			t.Errorf("of %q: cycle %d tells %d while the clock is low", text, i, e)
		case e < api.None || e > api.Fall:
			t.Errorf("of %q: cycle %d tells %d", text, i, e)
		}
		if (last == api.Rise) != l[i].Scl {
			t.Errorf("of %q: in cycle %d the clock isn't where its Rises and Falls left it", text, i)
		}
	}
}

func TestWhatFollows(t *testing.T) {
	for _, text := range texts(7) {
		follows(t, text)
	}
	next := chance(8)
	for range 200 {
		follows(t, someText(next, next(1000)))
	}
}

// R4

func TestNoLevels(t *testing.T) {
	for _, l := range [][]api.Level{nil, {}, make([]api.Level, 0, 9)} {
		if e := Events(l); len(e) != 0 {
			t.Errorf("no levels tell %v", e)
		}
		if r := Runs(l); len(r) != 0 {
			t.Errorf("no levels have the runs %v", r)
		}
	}
}

// R5

func TestWhatIsHandedInStays(t *testing.T) {
	next := chance(9)
	for range 100 {
		text := someText(next, next(200))
		l := levels(text)
		room := slices.Grow(l, 50)
		behind := room[len(l):cap(room)]
		for i := range behind {
			behind[i] = level(i % 4)
		}
		kept := slices.Clone(behind)
		Events(room)
		Runs(room)
		if levelsText(room) != text || !slices.Equal(behind, kept) {
			t.Errorf("the levels %q were changed", text)
		}
	}
}

func TestWhatIsAnsweredIsMemoryOfItsOwn(t *testing.T) {
	next := chance(10)
	for range 100 {
		text := someText(next, 20+next(200))
		l := levels(text)
		events, runs := Events(l), Runs(l)
		for i := range l {
			l[i] = api.Level{Scl: !l[i].Scl, Sda: !l[i].Sda}
		}
		if eventsText(events) != eventsTold(text) || runsText(runs) != runsTold(text) {
			t.Errorf("who changes the levels %q changes what was answered", text)
		}
		l = levels(text)
		again, runsAgain := Events(l), Runs(l)
		spoilt(events, runs)
		if eventsText(again) != eventsTold(text) || runsText(runsAgain) != runsTold(text) || levelsText(l) != text {
			t.Errorf("who changes what was answered of %q changes more", text)
		}
	}
}

// spoilt writes all that lists answered have, and all that is behind their ends.
func spoilt(events []int, runs []api.Run) {
	events = events[:cap(events)]
	for i := range events {
		events[i] = -7
	}
	for i := range runs {
		bits := runs[i].Bits[:cap(runs[i].Bits)]
		for k := range bits {
			bits[k] = !bits[k]
		}
	}
	runs = runs[:cap(runs)]
	for i := range runs {
		runs[i] = api.Run{Bits: []bool{true}, Stop: true}
	}
}

func TestNoTwoRunsShareMemory(t *testing.T) {
	next := chance(11)
	for range 100 {
		runs := Runs(levels(someText(next, 300)))
		for i := range runs {
			others := cloned(runs)
			bits := runs[i].Bits
			for k := range bits {
				bits[k] = !bits[k]
			}
			bits = append(bits, true, false, true)
			for k := range bits {
				bits[k] = k%2 == 0
			}
			for k := range runs {
				if k != i && bitsText(runs[k].Bits) != bitsText(others[k].Bits) {
					t.Fatalf("who changes the bits of run %d changes those of run %d", i, k)
				}
			}
		}
	}
}

// R6

func TestAskedAgainTheSame(t *testing.T) {
	next := chance(12)
	for range 100 {
		text := someText(next, next(100))
		l := levels(text)
		for range 3 {
			if got := eventsText(Events(l)); got != eventsTold(text) {
				t.Errorf("asked again the events of %q are %q", text, got)
			}
			if got := runsText(Runs(l)); got != runsTold(text) {
				t.Errorf("asked again the runs of %q are %q", text, got)
			}
			stepped(New(), "0312")
		}
	}
}
