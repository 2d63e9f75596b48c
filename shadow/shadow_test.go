package shadow

import (
	"bytes"
	"fmt"
	"math"
	"slices"
	"testing"

	"keepsake/api"
	"keepsake/disk"
)

// Whether a call can be made

// refused holds that Format and Open tell that error, whatever comes next of the disk, and do nothing with it.
func refused(t *testing.T, what string, d *disk.Disk, g api.Geometry, want api.Errno) {
	t.Helper()
	for _, planned := range []bool{false, true} {
		c := d.Copy()
		if planned {
			c.Fail(c.Ops() + 1)
		}
		was := d.Copy()
		tell(t, what+": Format", Format(c, g), want)
		untouched(t, what+": Format", c, was)
		s, e := Open(c, g)
		tell(t, what+": Open", e, want)
		if s != nil {
			t.Errorf("%s: Open: a shadow beside an error", what)
		}
		untouched(t, what+": Open", c, was)
	}
}

// made holds that Format and Open can be made.
func made(t *testing.T, what string, d *disk.Disk, g api.Geometry) {
	t.Helper()
	tell(t, what+": Format", Format(d, g), api.OK)
	tells(t, what, open(t, d, g), current{factory(g), 1, 0}, false)
}

func TestChipsThatCanNotBeAreRefused(t *testing.T) {
	roomy := noisy(t, 64, 64)
	for _, g := range wrongOnes() {
		refused(t, fmt.Sprintf("%+v", g), roomy, g, api.ErrGeometry)
	}
}

func TestSectorsBelowLeastAreRefused(t *testing.T) {
	for size := 1; size < 32; size++ {
		what := fmt.Sprint("sectors of ", size)
		refused(t, what, noisy(t, 200, size), api.Geometry{Eeprom: 1, Sram: 1}, api.ErrArg)
		refused(t, what, noisy(t, 200, size), api.Geometry{}, api.ErrArg)
	}
	made(t, "sectors of 32", noisy(t, 200, 32), api.Geometry{Eeprom: 1, Sram: 1})
}

func TestDisksWithASectorTooFewAreRefused(t *testing.T) {
	for _, l := range layouts() {
		room := 2 * l.span()
		for _, sectors := range []int{0, 1, l.span(), room - 1} {
			if sectors < room {
				refused(t, fmt.Sprintf("%d of %d sectors", sectors, room), noisy(t, sectors, l.size), l.g, api.ErrFull)
			}
		}
		for _, more := range []int{0, 1, 2, room} {
			made(t, fmt.Sprintf("%d more than %d sectors", more, room), noisy(t, room+more, l.size), l.g)
		}
	}
}

// TestTheFirstFaultIsTold has all sets of faults at once, in the order in which they are told.
func TestTheFirstFaultIsTold(t *testing.T) {
	const wrongChips, wrongSize, wrongRoom = 1, 2, 4
	for faults := 1; faults < 8; faults++ {
		g, size, sectors, want := api.Geometry{Eeprom: 1, Sram: 1}, 64, 8, api.ErrFull
		if faults&wrongRoom != 0 {
			sectors = 1
		}
		if faults&wrongSize != 0 {
			size, want = 31, api.ErrArg
		}
		if faults&wrongChips != 0 {
			g.Flash, want = 65, api.ErrGeometry
		}
		refused(t, fmt.Sprintf("faults %03b", faults), noisy(t, sectors, size), g, want)
	}
}

// P7.1

// formatFails holds that Format does the first of these steps, and ends with the one that fails; if none does, all of them.
func formatFails(t *testing.T, l layout, was *disk.Disk, n int) {
	t.Helper()
	d, all := was.Copy(), formatSteps(l)
	d.Fail(d.Ops() + n)
	what := fmt.Sprintf("%+v: operation %d of %d fails", l, n, len(all))
	e := Format(d, l.g)
	if n > len(all) {
		tell(t, what, e, api.OK)
		asBehind(t, what, d, was, all, len(all))
		return
	}
	tell(t, what, e, api.ErrDisk)
	asBehind(t, what, d, was, all[:n-1], n)
}

func TestFormatWithEachOperationFailing(t *testing.T) {
	for _, l := range layouts() {
		for _, more := range []int{0, 4} { // sectors behind both slots stay as they are
			was := noisy(t, 2*l.span()+more, l.size)
			for n := 1; n <= len(formatSteps(l))+1; n++ {
				formatFails(t, l, was, n)
			}
		}
	}
}

func TestFormatOfADiskThatHasAFile(t *testing.T) {
	for _, l := range withImages() {
		d, s := formatted(t, l)
		for k := range 3 {
			tell(t, "Commit", s.Commit(noise(total(l.g), uint64(k))), api.OK)
		}
		for n := 1; n <= len(formatSteps(l))+1; n++ {
			formatFails(t, l, d, n)
		}
		made(t, "formatted again", d, l.g)
	}
}

func TestWhatAFormattedDiskHas(t *testing.T) {
	for _, l := range layouts() {
		sectors := 2*l.span() + 1
		d := noisy(t, sectors, l.size)
		want := view(d)
		copy(want, filled(headOf(l.g, 1, factory(l.g)), 1, l.size))
		copy(want[l.size:], filled(factory(l.g), l.span()-1, l.size))
		copy(want[l.span()*l.size:], make([]byte, l.size))
		tell(t, "Format", Format(d, l.g), api.OK)
		if i := unlike(d.Bytes(), want); i >= 0 {
			t.Errorf("%+v: a formatted disk isn't as it must be from byte %d on (sector %d)", l, i, i/l.size)
		}
		if len(d.Unsynced()) != 0 {
			t.Errorf("%+v: cached are %v", l, d.Unsynced())
		}
	}
}

func TestAFormattedDiskOfKnownBytes(t *testing.T) {
	d := opened(t, 32, bytes.Repeat([]byte{7}, 64))
	tell(t, "Format", Format(d, api.Geometry{}), api.OK)
	want := "KEEP\x01\x00\x00\x00\x00\x00\x00\x00\x01\x00\x00\x00\x00\x00\x00\x00\x00\x00\x00\x00\x47\x0b\xeb\x51" + string(make([]byte, 36))
	if got := string(d.Bytes()); got != want {
		t.Errorf("%q, want %q", got, want)
	}
}

// P7.2

// laidSlot is what a slot's sectors begin with, what Read would tell of it, and how many of its sectors must be read for that.
type laidSlot struct {
	name        string
	head, image []byte
	state       int
	seq         uint64
	reads       int
}

func bad(name string, head []byte) laidSlot {
	return laidSlot{name: name, head: head, state: api.Bad, reads: 1}
}

func good(l layout, seq uint64, seed uint64) laidSlot {
	b := noise(total(l.g), seed)
	return laidSlot{fmt.Sprint("good, number ", seq), headOf(l.g, seq, b), b, api.Good, seq, l.span()}
}

// otherChips are such whose head would be right.
func otherChips(g api.Geometry) api.Geometry {
	return api.Geometry{Eeprom: g.Eeprom, Flash: g.Flash ^ 1, Sram: g.Sram}
}

// slotsOf are slots of all states, whose images have the bytes of a seed.
func slotsOf(l layout, seed uint64) []laidSlot {
	b := noise(total(l.g), seed)
	right := headOf(l.g, math.MaxUint64, b)
	flipped := bytes.Clone(right)
	flipped[13] ^= 64
	version := summed(append([]byte("KEEP\x02"), right[5:24]...))
	length := bytes.Clone(right[:24])
	length[8]++
	out := []laidSlot{
		bad("wiped", make([]byte, l.size)),
		bad("another beginning", append([]byte("PEEK"), right[4:]...)),
		bad("another version", version),
		bad("another check sum", flipped),
		bad("another Length", summed(length)),
		{"another sum", headOf(l.g, math.MaxUint64, append(bytes.Clone(b), 1)), b, api.Bad, 0, l.span()},
		{"other chips", headOf(otherChips(l.g), math.MaxUint64, b), b, api.Alien, 0, 1},
		{"other chips, number 0", headOf(otherChips(l.g), 0, nil), b, api.Alien, 0, 1},
	}
	for _, seq := range []uint64{0, 1, 2, 7, 8, 9, 255, 256, 1 << 32, 1<<63 - 1, 1 << 63, math.MaxUint64 - 1, math.MaxUint64} {
		out = append(out, good(l, seq, seed))
	}
	return out
}

// pairOn is a disk with two slots: what is behind them in their sectors is noise.
func pairOn(t *testing.T, l layout, pair [2]laidSlot) *disk.Disk {
	t.Helper()
	all := noise((2*l.span()+1)*l.size, 5)
	for which, s := range pair {
		first := which * l.span() * l.size
		copy(all[first:], s.head)
		copy(all[first+l.size:], s.image)
	}
	return opened(t, l.size, all)
}

// restored is what Open must tell of two slots: a shadow, or why there is none.
func restored(pair [2]laidSlot) (current, api.Errno) {
	states := []int{pair[0].state, pair[1].state}
	which := 0
	switch {
	case slices.Equal(states, []int{api.Good, api.Good}):
		if pair[1].seq > pair[0].seq {
			which = 1
		}
	case slices.Contains(states, api.Good):
		which = slices.Index(states, api.Good)
	case slices.Contains(states, api.Alien):
		return current{}, api.ErrGeometry
	default:
		return current{}, api.ErrLost
	}
	return current{pair[which].image, pair[which].seq, which}, api.OK
}

// opens holds what Open tells of a disk, and that it syncs it and does no more than that many operations.
func opens(t *testing.T, what string, d *disk.Disk, g api.Geometry, want current, wantE api.Errno, ops int) {
	t.Helper()
	was := d.Copy()
	s, e := Open(d, g)
	tell(t, what, e, wantE)
	asBehind(t, what, d, was, []step{synced()}, ops)
	if (s == nil) != (e != api.OK) {
		t.Errorf("%s: a shadow: %v, beside %v", what, s != nil, e)
	}
	if s != nil {
		tells(t, what, s, want, false)
	}
}

// openFails holds that Open tells ErrDisk, if this operation fails, and nothing else; and that it syncs first.
func openFails(t *testing.T, what string, d *disk.Disk, g api.Geometry, n int) {
	t.Helper()
	what = fmt.Sprintf("%s, operation %d fails", what, n)
	was := d.Copy()
	d.Fail(d.Ops() + n)
	s, e := Open(d, g)
	tell(t, what, e, api.ErrDisk)
	if s != nil {
		t.Errorf("%s: a shadow", what)
	}
	done := []step{synced()}
	if n == 1 {
		done = nil
	}
	asBehind(t, what, d, was, done, n)
}

func TestOpenOfEachPair(t *testing.T) {
	answers := map[api.Errno]int{}
	for _, l := range layouts() {
		for _, a := range slotsOf(l, 20) {
			for _, b := range slotsOf(l, 21) {
				pair := [2]laidSlot{a, b}
				want, e := restored(pair)
				opens(t, fmt.Sprintf("%+v: %s; %s", l, a.name, b.name), pairOn(t, l, pair), l.g, want, e, 1+a.reads+b.reads)
				answers[e]++
			}
		}
	}
	if answers[api.OK] == 0 || answers[api.ErrGeometry] == 0 || answers[api.ErrLost] == 0 {
		t.Errorf("not all answers came about: %v", answers)
	}
}

func TestOpenWithEachOperationFailing(t *testing.T) {
	for _, l := range layouts() {
		some := func(seed uint64) []laidSlot { // a slot of each state
			all := slotsOf(l, seed)
			return []laidSlot{all[0], all[5], all[6], good(l, 7, seed), good(l, 8, seed)}
		}
		for _, a := range some(20) {
			for _, b := range some(21) {
				pair := [2]laidSlot{a, b}
				what, ops := a.name+"; "+b.name, 1+a.reads+b.reads
				for n := 1; n <= ops; n++ {
					d := pairOn(t, l, pair)
					tell(t, "Write", d.Write(2*l.span(), noise(l.size, 9)), api.OK)
					openFails(t, what, d, l.g, n)
					want, e := restored(pair)
					opens(t, what+", once more", d, l.g, want, e, ops)
				}
				d := pairOn(t, l, pair)
				d.Fail(ops + 1)
				want, e := restored(pair)
				opens(t, what+", the operation behind it fails", d, l.g, want, e, ops)
				tell(t, "the one behind it", d.Sync(), api.ErrDisk)
			}
		}
	}
}

// TestOpenHasWhatIsCachedLast: what is restored is what was cached, and no crash takes it back.
func TestOpenHasWhatIsCachedLast(t *testing.T) {
	for _, l := range layouts() {
		for which := range 2 {
			d := pairOn(t, l, [2]laidSlot{good(l, 7, 20), good(l, 7, 21)})
			want := current{noise(total(l.g), 22), 8, which}
			c := follow(t, d, slices.DeleteFunc(putSteps(l, which, 8, want.image), func(s step) bool { return s.sync }))
			openFails(t, "cached", c, l.g, 1)
			opens(t, "cached", c, l.g, want, api.OK, 1+2*l.span())
			c.Crash(nil)
			opens(t, "cached, and a crash", c, l.g, want, api.OK, 1+2*l.span())
		}
	}
}

func TestOpenOfADiskThatWasNeverFormatted(t *testing.T) {
	for _, l := range layouts() {
		for name, b := range map[string][]byte{"bytes 0": make([]byte, 2*l.span()*l.size), "bytes ff": bytes.Repeat([]byte{0xff}, 2*l.span()*l.size), "noise": noise(2*l.span()*l.size, 4)} {
			opens(t, name, opened(t, l.size, b), l.g, current{}, api.ErrLost, 3)
		}
	}
}

func TestOpenWithOtherChipsThanFormatted(t *testing.T) {
	for _, l := range layouts() {
		d, s := formatted(t, l)
		for _, more := range []int{0, 1} {
			if more == 1 && total(l.g) > 0 {
				tell(t, "Commit", s.Commit(noise(total(l.g), 3)), api.OK)
			}
			wide := opened(t, l.size, append(d.Bytes(), make([]byte, 20*l.size)...))
			for _, g := range []api.Geometry{otherChips(l.g), {Eeprom: l.g.Eeprom, Flash: l.g.Flash, Sram: l.g.Sram ^ 2}} {
				c := wide.Copy()
				_, e := Open(c, g)
				tell(t, "other chips", e, api.ErrGeometry)
				untouchedBut(t, "other chips", c, wide)
			}
		}
	}
}

// untouchedBut holds that a disk has what it had, whatever was read of it.
func untouchedBut(t *testing.T, what string, d, was *disk.Disk) {
	t.Helper()
	asBehind(t, what, d, was, nil, d.Ops()-was.Ops())
}

// P7.3

// started are shadows to commit to, of each slot, with what the other slot has: what Read would tell of it may be anything, but not newer.
func started(t *testing.T, l layout) []*Shadow {
	t.Helper()
	var out []*Shadow
	for which := range 2 {
		others := slotsOf(l, 21)[:8]
		others = append(others, good(l, 0, 21), good(l, 6, 21))
		if which == 0 {
			others = append(others, good(l, 7, 21))
		}
		for _, other := range others {
			pair := [2]laidSlot{other, other}
			pair[which] = good(l, 7, 20)
			d := pairOn(t, l, pair)
			tell(t, "Write", d.Write(2*l.span(), noise(l.size, 9)), api.OK)
			s := open(t, d, l.g)
			tells(t, "started", s, current{noise(total(l.g), 20), 7, which}, false)
			out = append(out, s)
		}
	}
	return out
}

// cacheMore writes a sector behind both slots, so that a sync is seen.
func cacheMore(t *testing.T, l layout, d *disk.Disk) {
	t.Helper()
	tell(t, "Write", d.Write(2*l.span(), noise(l.size, 77)), api.OK)
}

func TestWhatCommitDoes(t *testing.T) {
	for _, l := range withImages() {
		for _, s := range started(t, l) {
			which := 1 - s.Which()
			b := noise(total(l.g), 30)
			cacheMore(t, l, s.d)
			was, steps := s.d.Copy(), putSteps(l, which, 8, b)
			tell(t, "Commit", s.Commit(b), api.OK)
			asBehind(t, "Commit", s.d, was, steps, len(steps))
			tells(t, "Commit", s, current{b, 8, which}, false)
			tells(t, "committed, and opened", open(t, opened(t, l.size, s.d.Bytes()), l.g), current{b, 8, which}, false)
		}
	}
}

func TestCommitWithEachOperationFailing(t *testing.T) {
	for _, l := range withImages() {
		for n := 1; n <= l.span()+2; n++ {
			for _, s := range started(t, l) {
				commitFails(t, l, s, n)
			}
		}
		for _, s := range started(t, l) {
			s.d.Fail(s.d.Ops() + l.span() + 3)
			tell(t, "the operation behind it fails", s.Commit(noise(total(l.g), 30)), api.OK)
			tell(t, "the one behind it", s.d.Sync(), api.ErrDisk)
		}
	}
}

// commitFails holds that a Commit ends with the operation that fails, and what the shadow is then.
func commitFails(t *testing.T, l layout, s *Shadow, n int) {
	t.Helper()
	cacheMore(t, l, s.d)
	was, b := s.d.Copy(), noise(total(l.g), 30)
	old := current{s.Image(), s.Seq(), s.Which()}
	s.d.Fail(s.d.Ops() + n)
	what := fmt.Sprintf("%+v, slot %d: operation %d fails", l, old.which, n)
	tell(t, what, s.Commit(b), api.ErrDisk)
	asBehind(t, what, s.d, was, putSteps(l, 1-old.which, 8, b)[:n-1], n)
	tells(t, what, s, old, true)
	allStale(t, what, l, s, old)
}

// allStale holds that a stale shadow refuses everything, and stays as it is.
func allStale(t *testing.T, what string, l layout, s *Shadow, old current) {
	t.Helper()
	many := total(l.g)
	for _, b := range [][]byte{noise(many, 30), noise(many, 31), old.image, s.Image(), noise(many+1, 1), noise(many-1, 1), nil} {
		for _, planned := range []bool{false, true} {
			if planned {
				s.d.Fail(s.d.Ops() + 1)
			}
			was := s.d.Copy()
			tell(t, what+": Commit of a stale one", s.Commit(b), api.ErrStale)
			untouched(t, what+": Commit of a stale one", s.d, was)
			tells(t, what+": Commit of a stale one", s, old, true)
		}
	}
}

// TestAStaleShadowStaysStale, though the disk was opened again, and another shadow commits to it.
func TestAStaleShadowStaysStale(t *testing.T) {
	for _, l := range withImages() {
		for _, s := range started(t, l) {
			old := current{s.Image(), s.Seq(), s.Which()}
			s.d.Fail(s.d.Ops() + 1)
			tell(t, "Commit", s.Commit(noise(total(l.g), 30)), api.ErrDisk)
			again := open(t, s.d, l.g)
			tell(t, "Commit", again.Commit(noise(total(l.g), 31)), api.OK)
			tells(t, "the other one", again, current{noise(total(l.g), 31), 8, 1 - old.which}, false)
			allStale(t, "opened again", l, s, old)
		}
	}
}

// wrongLengths are how many bytes an image mustn't have.
func wrongLengths(many int) []int {
	var out []int
	for _, n := range []int{0, 1, many - 1, many + 1, many - 64, many + 64, 2 * many, many + 256} {
		if n >= 0 && n != many {
			out = append(out, n)
		}
	}
	return out
}

func TestCommitOfAnotherLength(t *testing.T) {
	for _, l := range layouts() {
		for _, s := range started(t, l)[:12] {
			old := current{s.Image(), s.Seq(), s.Which()}
			for _, n := range wrongLengths(total(l.g)) {
				b := append(s.Image(), noise(n, 1)...)[:n] // it begins as the current image does
				s.d.Fail(s.d.Ops() + 1)
				was := s.d.Copy()
				what := fmt.Sprintf("%d bytes in place of %d", n, total(l.g))
				tell(t, what, s.Commit(b), api.ErrArg)
				untouched(t, what, s.d, was)
				tells(t, what, s, old, false)
			}
		}
	}
}

func TestCommitOfTheCurrentImage(t *testing.T) {
	for _, l := range layouts() {
		for _, s := range started(t, l) {
			old := current{s.Image(), s.Seq(), s.Which()}
			for range 2 {
				s.d.Fail(s.d.Ops() + 1)
				was := s.d.Copy()
				tell(t, "Commit", s.Commit(old.image), api.OK)
				untouched(t, "Commit of the current image", s.d, was)
				tells(t, "Commit of the current image", s, old, false)
			}
		}
	}
	l := layout{32, api.Geometry{}}
	_, s := formatted(t, l)
	for _, b := range [][]byte{nil, {}} {
		tell(t, "no chips", s.Commit(b), api.OK)
		tells(t, "no chips", s, current{nil, 1, 0}, false)
	}
	tell(t, "no chips", s.Commit([]byte{0}), api.ErrArg)
}

// TestCommitOfAnImageThatDiffersInOneByte: it is another one, wherever it differs.
func TestCommitOfAnImageThatDiffersInOneByte(t *testing.T) {
	for _, l := range withImages() {
		many := total(l.g)
		for _, at := range []int{0, 1, l.size - 1, l.size, many / 2, many - 2, many - 1} {
			if at >= many {
				continue
			}
			_, s := formatted(t, l)
			b := factory(l.g)
			b[at] ^= 1
			tell(t, "Commit", s.Commit(b), api.OK)
			tells(t, fmt.Sprint("another byte at ", at), s, current{b, 2, 1}, false)
		}
	}
}

// TestCommitOfWhatTheOtherSlotHas: it isn't the current image, though it is there already.
func TestCommitOfWhatTheOtherSlotHas(t *testing.T) {
	for _, l := range withImages() {
		d, s := formatted(t, l)
		for k := range 6 {
			b := noise(total(l.g), uint64(k%2))
			was, steps := d.Copy(), putSteps(l, 1-s.Which(), uint64(k+2), b)
			tell(t, "Commit", s.Commit(b), api.OK)
			asBehind(t, "Commit", d, was, steps, len(steps))
			tells(t, "Commit", s, current{b, uint64(k + 2), (k + 1) % 2}, false)
		}
	}
}

func TestCommitAtTheHighestNumber(t *testing.T) {
	for _, l := range withImages() {
		for which := range 2 {
			pair := [2]laidSlot{good(l, 3, 21), good(l, 3, 21)}
			pair[which] = good(l, math.MaxUint64-1, 20)
			s := open(t, pairOn(t, l, pair), l.g)
			b := noise(total(l.g), 30)
			tell(t, "Commit with the highest number", s.Commit(b), api.OK)
			for range 2 {
				old := current{b, math.MaxUint64, 1 - which}
				atHighest(t, l, s, old)
				s = open(t, s.d, l.g)
			}
		}
	}
}

// atHighest holds what a shadow with no number left tells: it isn't stale, and takes what asks for no number.
func atHighest(t *testing.T, l layout, s *Shadow, old current) {
	t.Helper()
	many := total(l.g)
	c := s.d
	s.d = c.Copy()
	s.d.Fail(s.d.Ops() + 1)
	for _, x := range []struct {
		b    []byte
		want api.Errno
	}{{noise(many, 31), api.ErrSeq}, {noise(many+1, 30), api.ErrArg}, {nil, api.ErrArg}, {old.image, api.OK}, {noise(many, 20), api.ErrSeq}} {
		was := s.d.Copy()
		tell(t, "at the highest number", s.Commit(x.b), x.want)
		untouched(t, "at the highest number", s.d, was)
		tells(t, "at the highest number", s, old, false)
	}
	s.d = c
}

func TestManyCommits(t *testing.T) {
	for _, l := range withImages() {
		d, s := formatted(t, l)
		next := mixed(uint64(l.size))
		old := current{factory(l.g), 1, 0}
		for range 50 {
			b := noise(total(l.g), next()%4)
			if !bytes.Equal(b, old.image) {
				old = current{b, old.seq + 1, 1 - old.which}
			}
			tell(t, "Commit", s.Commit(b), api.OK)
			tells(t, "committed", s, old, false)
			if next()%4 == 0 {
				s = open(t, opened(t, l.size, d.Bytes()), l.g)
				d = s.d
				tells(t, "opened", s, old, false)
			}
		}
	}
}

func TestTheGreatestChips(t *testing.T) {
	l := layout{64, api.Geometry{Eeprom: 10, Flash: 64, Sram: 128}}
	d, s := formatted(t, l)
	b := noise(90112, 1)
	tell(t, "Commit", s.Commit(b), api.OK)
	opens(t, "all chips", d, l.g, current{b, 2, 1}, api.OK, 1+2*1409)
}

// P7.4

func TestWhatIsHandedInIsNotKeptOrChanged(t *testing.T) {
	for _, l := range withImages() {
		d, s := formatted(t, l)
		all := noise(2*total(l.g)+200, 4)
		was := bytes.Clone(all)
		b := all[:total(l.g)]
		tell(t, "Commit", s.Commit(b), api.OK)
		if !bytes.Equal(all, was) {
			t.Error("what was handed in, or what lies behind it, was changed")
		}
		clear(all)
		want := current{was[:total(l.g)], 2, 1}
		tells(t, "changed later", s, want, false)
		tells(t, "changed later, opened", open(t, d, l.g), want, false)
		tell(t, "what was handed in isn't current any more", s.Commit(b), api.OK)
		tells(t, "what was handed in isn't current any more", s, current{b, 3, 0}, false)
	}
}

func TestWhatIsAnsweredIsItsOwn(t *testing.T) {
	for _, l := range withImages() {
		d, s := formatted(t, l)
		for _, want := range []current{{factory(l.g), 1, 0}, {noise(total(l.g), 8), 2, 1}} {
			tell(t, "Commit", s.Commit(want.image), api.OK)
			for _, x := range []*Shadow{s, open(t, d, l.g)} {
				a, b := x.Image(), x.Image()
				for i := range a {
					a[i]++
				}
				_ = append(a, 1, 2, 3)
				if !bytes.Equal(b, want.image) {
					t.Error("two answers share memory")
				}
				tells(t, "an answer was changed", x, want, false)
			}
			tells(t, "an answer was changed", open(t, d, l.g), want, false)
		}
	}
}

// TestAskingDoesNothing, and doesn't ask the disk: a shadow is what it was opened or committed with.
func TestAskingDoesNothing(t *testing.T) {
	for _, l := range withImages() {
		d, s := formatted(t, l)
		b := noise(total(l.g), 8)
		tell(t, "Commit", s.Commit(b), api.OK)
		for i := range d.Sectors() {
			tell(t, "Write", d.Write(i, noise(l.size, 1)), api.OK)
		}
		d.Fail(d.Ops() + 1)
		was := d.Copy()
		tells(t, "another disk's bytes", s, current{b, 2, 1}, false)
		untouched(t, "asked", d, was)
	}
}

func TestTwoShadowsOfOneDisk(t *testing.T) {
	l := layout{32, api.Geometry{Sram: 1}}
	d, a := formatted(t, l)
	b := open(t, d, l.g)
	tell(t, "Commit", a.Commit(noise(64, 1)), api.OK)
	tells(t, "the other one", b, current{factory(l.g), 1, 0}, false)
	tells(t, "the one that committed", a, current{noise(64, 1), 2, 1}, false)
}

// TestOtherPanicsGoOn: only what a disk tells wrong is caught.
func TestOtherPanicsGoOn(t *testing.T) {
	for _, what := range []any{"a text", 3, fmt.Errorf("an error")} {
		func() {
			defer func() {
				if r := recover(); r != what {
					t.Errorf("%v became of %v", r, what)
				}
			}()
			told(what, api.OK)
		}()
	}
}
