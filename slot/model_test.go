package slot

import (
	"bytes"
	"encoding/binary"
	"fmt"
	"hash/crc32"
	"slices"
	"testing"

	"keepsake/api"
	"keepsake/disk"
)

// model is a disk of two slots as the chapters' words say it: nil is what isn't cached.
type model struct {
	l               layout
	lasting, cached [][]byte
	planned         []int
	ops             int
}

func newModel(l layout, b []byte) *model {
	m := &model{l: l}
	for part := range slices.Chunk(b, l.size) {
		m.lasting = append(m.lasting, part)
		m.cached = append(m.cached, nil)
	}
	return m
}

func (m *model) fails() bool {
	m.ops++
	return slices.Contains(m.planned, m.ops)
}

// write caches sectors one behind the other, till one fails.
func (m *model) write(first int, b []byte) api.Errno {
	for part := range slices.Chunk(b, m.l.size) {
		if m.fails() {
			return api.ErrDisk
		}
		m.cached[first] = part
		first++
	}
	return api.OK
}

// read is some sectors' bytes, and whether all of them could be read.
func (m *model) read(first, many int) ([]byte, bool) {
	var b []byte
	for i := first; i < first+many; i++ {
		if m.fails() {
			return nil, false
		}
		if m.cached[i] != nil {
			b = append(b, m.cached[i]...)
		} else {
			b = append(b, m.lasting[i]...)
		}
	}
	return b, true
}

// slot is what Read must tell.
func (m *model) slot(which int) (api.Slot, api.Errno) {
	first := which * m.l.span()
	h, ok := m.read(first, 1)
	if !ok {
		return api.Slot{}, api.ErrDisk
	}
	if string(h[:4]) != "KEEP" {
		return isBad(api.ErrMagic), api.OK
	}
	if binary.LittleEndian.Uint32(h[24:]) != crc32.ChecksumIEEE(h[:24]) {
		return isBad(api.ErrSum), api.OK
	}
	if h[5] != byte(m.l.g.Eeprom) || h[6] != byte(m.l.g.Flash) || h[7] != byte(m.l.g.Sram) {
		return api.Slot{State: api.Alien}, api.OK
	}
	b, ok := m.read(first+1, m.l.span()-1)
	if !ok {
		return api.Slot{}, api.ErrDisk
	}
	b = b[:total(m.l.g)]
	if binary.LittleEndian.Uint32(h[20:]) != crc32.ChecksumIEEE(b) {
		return isBad(api.ErrSum), api.OK
	}
	return api.Slot{State: api.Good, Seq: binary.LittleEndian.Uint64(h[12:]), Image: b}, api.OK
}

func (m *model) crash(l []api.Tear) {
	for i, b := range m.cached {
		if b == nil {
			continue
		}
		m.cached[i] = nil
		tear := l[0]
		l = l[1:]
		switch tear.Kind {
		case api.New:
			m.lasting[i] = b
		case api.Junk:
			m.lasting[i] = filled(tear.Bytes, 1, m.l.size)
		}
	}
}

// bytes are those that last, and those that would be read.
func (m *model) bytes() (lasting, now []byte) {
	for i, b := range m.lasting {
		lasting = append(lasting, b...)
		if m.cached[i] != nil {
			b = m.cached[i]
		}
		now = append(now, b...)
	}
	return lasting, now
}

// tears are what a crash leaves of each sector; of a head's at times one with other chips, or one that was torn.
func tears(next func() uint64, l layout) []api.Tear {
	var out []api.Tear
	for range 2 * l.span() {
		var junk []byte
		switch next() % 6 {
		case 0:
			junk = noise(l.size, next())
		case 1:
			junk = partsOf(api.Geometry{Eeprom: 1, Flash: 7}, next(), nil).bytes()
		case 2:
			junk = partsOf(l.g, next(), nil).bytes()[:27]
		}
		out = append(out, api.Tear{Kind: int(next() % 3), Bytes: junk})
	}
	return out
}

// step does one thing, that looks like chance, with both, and holds what they tell against each other.
func step(t *testing.T, next func() uint64, d *disk.Disk, m *model) {
	t.Helper()
	l, which := m.l, int(next()%2)
	first := which * l.span()
	b, seq := noise(total(l.g), next()%3), next()
	switch next() % 12 {
	case 0, 1:
		tell(t, "Data", Data(d, which, l.g, b), m.write(first+1, filled(b, l.span()-1, l.size)))
	case 2, 3:
		tell(t, "Seal", Seal(d, which, l.g, seq, b), m.write(first, filled(partsOf(l.g, seq, b).bytes(), 1, l.size)))
	case 4:
		tell(t, "Wipe", Wipe(d, which, l.g), m.write(first, make([]byte, l.size)))
	case 5, 6, 7:
		got, e := Read(d, which, l.g)
		want, wantE := m.slot(which)
		tell(t, "Read", e, wantE)
		if got.State != want.State || got.Why != want.Why || got.Seq != want.Seq || !bytes.Equal(got.Image, want.Image) {
			t.Errorf("Read: state %d, %v, number %d, want state %d, %v, number %d", got.State, got.Why, got.Seq, want.State, want.Why, want.Seq)
		}
	case 8:
		want := api.OK
		if m.fails() {
			want = api.ErrDisk
		} else {
			m.crash(slices.Repeat([]api.Tear{{Kind: api.New}}, 2*l.span()))
		}
		tell(t, "Sync", d.Sync(), want)
	case 9:
		torn := tears(next, l)
		d.Crash(torn)
		m.crash(torn)
	case 10:
		n := d.Ops() + 1 + int(next()%uint64(2*l.span()))
		d.Fail(n)
		m.planned = append(m.planned, n)
	case 11: // a mended disk: what was planned is past
		for _, n := range m.planned {
			for d.Ops() < n {
				d.Read(0)
				m.fails()
			}
		}
		m.planned = nil
	}
}

func TestLikeTheModel(t *testing.T) {
	for k, l := range layouts() {
		next := mixed(uint64(k) + 1)
		states := map[int]int{}
		for round := range 40 {
			b := noise(2*l.span()*l.size, next())
			d, m := opened(t, l.size, b), newModel(l, b)
			for n := range 60 {
				step(t, next, d, m)
				lasting, now := m.bytes()
				if d.Ops() != m.ops || !bytes.Equal(d.Bytes(), lasting) || !bytes.Equal(view(d), now) {
					t.Errorf("the disk isn't the model's: %d operations, want %d", d.Ops(), m.ops)
				}
				if t.Failed() {
					t.Fatal(fmt.Sprintf("%+v, round %d, step %d", l, round, n))
				}
				s, _ := newModel(l, now).slot(round % 2)
				states[s.State]++
			}
		}
		if states[api.Bad] == 0 || states[api.Alien] == 0 || states[api.Good] == 0 {
			t.Errorf("%+v: not all states came about: %v", l, states)
		}
	}
}
