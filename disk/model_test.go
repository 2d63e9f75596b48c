package disk

import (
	"bytes"
	"slices"
	"testing"

	"keepsake/api"
)

// model is a disk as the chapter's words say it, without a map: nil is what isn't cached.
type model struct {
	size            int
	lasting, cached [][]byte
	planned         []int
	ops, writes     int
}

func (m *model) fails() bool {
	m.ops++
	return slices.Contains(m.planned, m.ops)
}

func (m *model) read(i int) ([]byte, api.Errno) {
	switch {
	case m.fails():
		return nil, api.ErrDisk
	case i < 0 || i >= len(m.lasting):
		return nil, api.ErrRange
	case m.cached[i] != nil:
		return m.cached[i], api.OK
	}
	return m.lasting[i], api.OK
}

func (m *model) write(i int, b []byte) api.Errno {
	switch {
	case m.fails():
		return api.ErrDisk
	case i < 0:
		return api.ErrRange
	case i >= len(m.lasting):
		return api.ErrFull
	case len(b) != m.size:
		return api.ErrArg
	}
	m.cached[i] = bytes.Clone(b)
	m.writes++
	return api.OK
}

func (m *model) sync() api.Errno {
	if m.fails() {
		return api.ErrDisk
	}
	all := make([]api.Tear, len(m.lasting))
	for i := range all {
		all[i].Kind = api.New
	}
	m.crash(all)
	return api.OK
}

// fail keeps what was planned ahead of its operation alone.
func (m *model) fail(n int) {
	if n > m.ops {
		m.planned = append(m.planned, n)
	}
}

func (m *model) crash(l []api.Tear) {
	for i, b := range m.cached {
		if b == nil {
			continue
		}
		m.cached[i] = nil
		if len(l) == 0 {
			continue
		}
		switch l[0].Kind {
		case api.New:
			m.lasting[i] = b
		case api.Junk:
			m.lasting[i] = append(bytes.Clone(l[0].Bytes), make([]byte, m.size)...)[:m.size]
		}
		l = l[1:]
	}
}

func (m *model) copy() *model {
	c := *m
	c.lasting, c.cached, c.planned = slices.Clone(m.lasting), slices.Clone(m.cached), slices.Clone(m.planned)
	return &c
}

func (m *model) unsynced() []int {
	var out []int
	for i, b := range m.cached {
		if b != nil {
			out = append(out, i)
		}
	}
	return out
}

// picker tells a number below n.
type picker func(n int) int

// mixed tells numbers that look like chance and are always the same.
func mixed(seed uint32) picker {
	return func(n int) int {
		seed ^= seed << 13
		seed ^= seed >> 17
		seed ^= seed << 5
		return int(seed>>3) % n
	}
}

// pair is a disk, and what it must be.
type pair struct {
	d *Disk
	m *model
}

func somePair(t *testing.T, pick picker) pair {
	sectors, size := pick(7), 1+pick(4)
	text := someBytes(pick, sectors*size)
	d, e := Open(size, text)
	if e != api.OK {
		t.Fatal(e)
	}
	m := &model{size: size, cached: make([][]byte, sectors)}
	for i := range sectors {
		m.lasting = append(m.lasting, bytes.Clone(text[i*size:(i+1)*size]))
	}
	return pair{d, m}
}

func someBytes(pick picker, n int) []byte {
	b := make([]byte, n)
	for i := range b {
		b[i] = byte(pick(256))
	}
	return b
}

func someTears(pick picker) []api.Tear {
	l := make([]api.Tear, pick(9))
	for i := range l {
		l[i] = api.Tear{Kind: pick(5) - 1, Bytes: someBytes(pick, pick(7))}
	}
	return l
}

// step does the same with both, and holds what they tell against each other.
func (p pair) step(t *testing.T, pick picker) {
	i := pick(len(p.m.lasting)+3) - 1
	switch pick(10) {
	case 0, 1:
		got, e := p.d.Read(i)
		want, f := p.m.read(i)
		if e != f || !bytes.Equal(got, want) {
			t.Fatalf("Read(%d): %v, %v, want %v, %v", i, got, e, want, f)
		}
	case 2, 3, 4, 5:
		b := someBytes(pick, p.m.size)
		if pick(5) == 0 {
			b = someBytes(pick, pick(6))
		}
		if e, f := p.d.Write(i, b), p.m.write(i, b); e != f {
			t.Fatalf("Write(%d, %v): %v, want %v", i, b, e, f)
		}
	case 6:
		if e, f := p.d.Sync(), p.m.sync(); e != f {
			t.Fatalf("Sync: %v, want %v", e, f)
		}
	case 7, 8:
		n := p.m.ops + pick(8) - 2
		p.d.Fail(n)
		p.m.fail(n)
	case 9:
		l := someTears(pick)
		p.d.Crash(l)
		p.m.crash(l)
	}
}

func (p pair) same(t *testing.T) {
	d, m := p.d, p.m
	if d.Sectors() != len(m.lasting) || d.Size() != m.size || d.Ops() != m.ops || d.Writes() != m.writes {
		t.Fatalf("%d, %d, %d, %d, want %d, %d, %d, %d", d.Sectors(), d.Size(), d.Ops(), d.Writes(), len(m.lasting), m.size, m.ops, m.writes)
	}
	if got, want := d.Bytes(), bytes.Join(m.lasting, nil); !bytes.Equal(got, want) {
		t.Fatalf("lasting: %v, want %v", got, want)
	}
	if got, want := d.Unsynced(), m.unsynced(); !slices.Equal(got, want) {
		t.Fatalf("not synced: %v, want %v", got, want)
	}
}

// P2.1 to P2.4: whatever is done, with one disk and its copies, each is as the words say.
func TestDisksGoOnAsTheWordsSay(t *testing.T) {
	pick := mixed(2)
	for range 400 {
		all := []pair{somePair(t, pick)}
		for range 120 {
			p := all[pick(len(all))]
			if len(all) < 4 && pick(20) == 0 {
				all = append(all, pair{p.d.Copy(), p.m.copy()})
			}
			p.step(t, pick)
			for _, q := range all {
				q.same(t)
			}
		}
	}
}
