package shadow

import (
	"bytes"
	"fmt"
	"slices"
	"testing"

	"keepsake/api"
	"keepsake/disk"
	"keepsake/head"
)

// P7.5

// small are layouts whose sectors may be torn in all ways at once.
func small() []layout {
	return []layout{
		{64, api.Geometry{Sram: 1}},
		{65, api.Geometry{Sram: 1}},
		{32, api.Geometry{Sram: 1}},
		{63, api.Geometry{Sram: 1}},
		{64, api.Geometry{Eeprom: 1, Sram: 1}},
	}
}

// junk is what may be left of a sector in place of what it had, but a head.
func junk(l layout, seq uint64, b []byte) [][]byte {
	right := headOf(l.g, seq, b)
	flipped := bytes.Clone(right)
	flipped[15] ^= 1
	out := [][]byte{
		nil,
		noise(l.size, 50),
		noise(2*l.size, 51),
		right[:27],
		flipped,
		append([]byte{0}, right...),
		summed(append([]byte("KEEP\x02"), right[5:24]...)),
		factory(l.g),
		b,
	}
	return slices.DeleteFunc(out, func(b []byte) bool { return beginsWithAHead(l, b) })
}

// beginsWithAHead tells whether a sector would, of which such junk is left.
func beginsWithAHead(l layout, b []byte) bool {
	_, e := head.Decode(filled(b[:min(len(b), l.size)], 1, l.size))
	return e == api.OK
}

// tears are what may be left of a sector.
func tears(l layout, seq uint64, b []byte) []api.Tear {
	out := []api.Tear{{Kind: api.Old}, {Kind: api.New}}
	for _, b := range junk(l, seq, b) {
		out = append(out, api.Tear{Kind: api.Junk, Bytes: b})
	}
	return out
}

// crashed are disks that a crash may leave of one: each set of tears that its sectors may have.
func crashed(d *disk.Disk, each []api.Tear) []*disk.Disk {
	sets := [][]api.Tear{nil}
	for range d.Unsynced() {
		var longer [][]api.Tear
		for _, set := range sets {
			for _, tear := range each {
				longer = append(longer, append(slices.Clone(set), tear))
			}
		}
		sets = longer
	}
	var out []*disk.Disk
	for _, set := range sets {
		c := d.Copy()
		c.Crash(set)
		out = append(out, c)
	}
	return out
}

// restores holds that a disk restores one of these, and the same again, and behind another crash.
func restores(t *testing.T, what string, d *disk.Disk, l layout, may ...current) current {
	t.Helper()
	s := open(t, d, l.g)
	i := slices.IndexFunc(may, func(c current) bool { return bytes.Equal(c.image, s.Image()) })
	if i < 0 {
		t.Errorf("%s: an image that was never committed, or not last", what)
		return current{s.Image(), s.Seq(), s.Which()}
	}
	tells(t, what, s, may[i], false)
	tells(t, what+": opened again", open(t, d, l.g), may[i], false)
	d.Crash([]api.Tear{{Kind: api.Junk}, {Kind: api.New}})
	tells(t, what+": opened behind another crash", open(t, d, l.g), may[i], false)
	return may[i]
}

// commits is a disk that was formatted, its shadow behind so many commits, and what is current.
func commits(t *testing.T, l layout, many int) (*disk.Disk, *Shadow, current) {
	t.Helper()
	d, s := formatted(t, l)
	for k := range many {
		tell(t, "Commit", s.Commit(noise(total(l.g), uint64(k))), api.OK)
	}
	return d, s, current{s.Image(), s.Seq(), s.Which()}
}

// TestACommitThatFailsAndACrash has each operation fail, and each set of tears. The image in flight may be there only if its head was written.
func TestACommitThatFailsAndACrash(t *testing.T) {
	for _, l := range small() {
		for many := range 3 {
			flown := 0
			for n := 1; n <= l.span()+2; n++ {
				d, s, last := commits(t, l, many)
				b := noise(total(l.g), 9)
				flight := current{b, last.seq + 1, 1 - last.which}
				d.Fail(d.Ops() + n)
				tell(t, "Commit", s.Commit(b), api.ErrDisk)
				may := []current{last}
				if n == l.span()+2 {
					may = append(may, flight)
				}
				for _, c := range append(crashed(d, tears(l, flight.seq, b)), d) {
					what := fmt.Sprintf("%+v, %d commits, operation %d failed", l, many, n)
					if restores(t, what, c, l, may...).seq == flight.seq {
						flown++
					}
				}
			}
			if flown != 2 { // the head's sector is New, or there was no crash
				t.Errorf("%+v: the image in flight was restored %d times", l, flown)
			}
		}
	}
}

// TestACommitThatToldOKAndACrash: nothing is left to chance.
func TestACommitThatToldOKAndACrash(t *testing.T) {
	for _, l := range layouts() {
		for many := range 4 {
			d, _, last := commits(t, l, many*min(total(l.g), 1))
			if n := len(d.Unsynced()); n != 0 {
				t.Errorf("%+v: %d sectors are cached", l, n)
			}
			d.Crash(slices.Repeat([]api.Tear{{Kind: api.Junk, Bytes: noise(l.size, 3)}}, d.Sectors()))
			restores(t, "told OK", d, l, last)
		}
	}
}

// TestOpenThatFailsAndACrash: whichever operation of it fails behind a commit that failed, and whatever a crash leaves then.
func TestOpenThatFailsAndACrash(t *testing.T) {
	for _, l := range small()[:3] {
		for n := 1; n <= l.span()+2; n++ {
			for fails := 1; fails <= 2*l.span()+1; fails++ {
				d, s, last := commits(t, l, 2)
				b := noise(total(l.g), 9)
				d.Fail(d.Ops() + n)
				tell(t, "Commit", s.Commit(b), api.ErrDisk)
				d.Fail(d.Ops() + fails)
				if again, e := Open(d, l.g); e == api.OK {
					tells(t, "it needs no more operations", again, last, false)
					continue
				}
				for _, c := range crashed(d, tears(l, last.seq+1, b)) {
					what := fmt.Sprintf("%+v, operation %d failed, and %d of Open", l, n, fails)
					restores(t, what, c, l, last, current{b, last.seq + 1, 1 - last.which})
				}
			}
		}
	}
}

// TestAFormatThatFailsAndACrash: there is nothing then, or what was there, as long as the wipes didn't last, or the factory's image; and it can be formatted again.
func TestAFormatThatFailsAndACrash(t *testing.T) {
	for _, l := range small() {
		fresh := current{factory(l.g), 1, 0}
		for n := 1; n <= len(formatSteps(l)); n++ {
			d, _, last := commits(t, l, 3)
			may := []current{fresh, last, {noise(total(l.g), 1), last.seq - 1, 1 - last.which}}
			if n > 3 {
				may = may[:1]
			}
			d.Fail(d.Ops() + n)
			tell(t, "Format", Format(d, l.g), api.ErrDisk)
			for _, c := range append(crashed(d, tears(l, 1, factory(l.g))), d) {
				what := fmt.Sprintf("%+v, operation %d failed", l, n)
				if _, e := Open(c.Copy(), l.g); e == api.OK {
					restores(t, what, c, l, may...)
				} else {
					tell(t, what, e, api.ErrLost)
				}
				made(t, "formatted again", c, l.g)
			}
		}
	}
}

// player plays with a disk whatever looks like chance, and knows what may be restored of it.
type player struct {
	l      layout
	next   func() uint64
	d      *disk.Disk
	s      *Shadow // nil, when it must be opened
	last   current
	flight *current
	seen   map[string]int
}

func (p *player) below(n int) int { return int(p.next() % uint64(n)) }

// commit takes one of a few images, so that what a slot has, had, or was torn of it comes about again.
func (p *player) commit(t *testing.T) {
	t.Helper()
	b := noise(total(p.l.g), uint64(p.below(4)))
	was := p.d.Writes()
	e := p.s.Commit(b)
	writes := p.d.Writes() - was
	next := current{b, p.last.seq + 1, 1 - p.last.which}
	switch {
	case bytes.Equal(b, p.last.image):
		tell(t, "Commit of the current image", e, api.OK)
		if writes != 0 {
			t.Errorf("%d sectors were written of what was there", writes)
		}
	case e == api.OK:
		p.last = next
		if writes != p.l.span() {
			t.Errorf("%d sectors were written, want %d", writes, p.l.span())
		}
	default:
		tell(t, "Commit", e, api.ErrDisk)
		p.flight = &next
		if writes > p.l.span() {
			t.Errorf("%d sectors were written, want %d at most", writes, p.l.span())
		}
	}
	tells(t, "Commit", p.s, p.last, e != api.OK)
	p.seen["commit "+e.Error()]++
}

// crash ends a shadow, as it ends the host.
func (p *player) crash() {
	b := noise(total(p.l.g), uint64(p.below(4)))
	each := tears(p.l, p.next(), b)
	var l []api.Tear
	for range p.d.Unsynced() {
		l = append(l, each[p.below(len(each))])
		if p.below(2) == 0 {
			l[len(l)-1] = each[p.below(2)]
		}
	}
	p.d.Crash(l)
	p.s = nil
}

// open takes what is restored for the last one: it must stay so, whatever comes.
func (p *player) open(t *testing.T) {
	t.Helper()
	s, e := Open(p.d, p.l.g)
	p.seen["open "+e.Error()]++
	if e != api.OK {
		tell(t, "Open", e, api.ErrDisk)
		return
	}
	p.s = s
	if p.flight != nil && bytes.Equal(s.Image(), p.flight.image) && s.Seq() == p.flight.seq {
		p.last = *p.flight
		p.seen["flown"]++
	}
	p.flight = nil
	tells(t, "Open", s, p.last, false)
}

// play does one thing.
func (p *player) play(t *testing.T) {
	t.Helper()
	switch p.below(8) {
	case 0:
		p.crash()
	case 1, 2:
		p.d.Fail(p.d.Ops() + 1 + p.below(2*p.l.span()+4))
	case 3, 4:
		p.open(t)
	default:
		if p.s != nil && !p.s.Stale() {
			p.commit(t)
		} else {
			p.open(t)
		}
	}
}

func TestWhateverFailsAndCrashes(t *testing.T) {
	for k, l := range withImages() {
		seen := map[string]int{}
		for round := range 60 {
			d, s := formatted(t, l)
			p := &player{l: l, next: mixed(uint64(k*1000 + round + 1)), d: d, s: s, last: current{factory(l.g), 1, 0}, seen: seen}
			for n := range 80 {
				p.play(t)
				if t.Failed() {
					t.Fatalf("%+v, round %d, step %d", l, round, n)
				}
			}
		}
		for _, what := range []string{"commit ok", "commit disk error", "open ok", "open disk error", "flown"} {
			if seen[what] == 0 {
				t.Errorf("%+v: it never came about: %s", l, what)
			}
		}
	}
}
