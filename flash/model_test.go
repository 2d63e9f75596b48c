package flash

import (
	"fmt"

	"keepsake/api"
)

// put is a write: of a byte, to an address.
type put struct {
	at    int
	value byte
}

func (p put) String() string { return fmt.Sprintf("%02x@%x", p.value, p.at) }

// any stands for what may be whatever it is.
const any = -1

// sequences are the chapter's, write by write: a byte, and the lowest byte of its address.
var sequences = []struct {
	does   string
	writes []struct{ value, low int }
}{
	{"program", []struct{ value, low int }{{0xaa, 0x55}, {0x55, 0xaa}, {0xa0, 0x55}, {any, any}}},
	{"erase a sector", []struct{ value, low int }{{0xaa, 0x55}, {0x55, 0xaa}, {0x80, 0x55}, {0xaa, 0x55}, {0x55, 0xaa}, {0x30, any}}},
	{"erase all", []struct{ value, low int }{{0xaa, 0x55}, {0x55, 0xaa}, {0x80, 0x55}, {0xaa, 0x55}, {0x55, 0xaa}, {0x10, 0x55}}},
	{"identify", []struct{ value, low int }{{0xaa, 0x55}, {0x55, 0xaa}, {0x90, 0x55}}},
}

// fits tells whether writes begin a sequence, and whether they are the whole of it.
func fits(writes []put, sequence []struct{ value, low int }) (begins, whole bool) {
	if len(writes) > len(sequence) {
		return false, false
	}
	for i, p := range writes {
		x := sequence[i]
		if x.value != any && x.value != int(p.value) || x.low != any && x.low != p.at%256 {
			return false, false
		}
	}
	return true, len(writes) == len(sequence)
}

// model is a chip as the chapter tells it, word by word: it keeps the writes that were begun, and holds them against each sequence.
type model struct {
	bytes      []byte
	begun      []put
	identifies bool
	left       int
	does       string // what it is busy with: program, erase
	from, many int
	value      byte
	reads      int // while it is busy
}

func newModel(b []byte) *model { return &model{bytes: append([]byte(nil), b...)} }

// place is what the chapter calls an address.
func (m *model) place(a int) int {
	if a < 0 {
		return 0
	}
	return a % len(m.bytes)
}

func (m *model) write(a int, v byte) {
	if m.left > 0 {
		return
	}
	p := put{m.place(a), v}
	if toProgram := len(m.begun) == 3 && m.begun[2].value == 0xa0; v == 0xf0 && !toProgram {
		m.identifies, m.begun = false, nil
		return
	}
	m.begun = append(m.begun, p)
	goesOn := false
	for _, s := range sequences {
		begins, whole := fits(m.begun, s.writes)
		if whole {
			m.begun = nil
			m.do(s.does, p)
			return
		}
		goesOn = goesOn || begins
	}
	if !goesOn {
		m.begun = nil
	}
}

// do is what a sequence is for; p is its last write.
func (m *model) do(what string, p put) {
	if what == "identify" {
		m.identifies = true
		return
	}
	m.identifies, m.reads = false, 0
	switch what {
	case "program":
		m.does, m.left, m.from, m.many, m.value = "program", 10, p.at, 1, p.value
	case "erase a sector":
		m.does, m.left, m.from, m.many = "erase", 100, p.at/256*256, 256
	case "erase all":
		m.does, m.left, m.from, m.many = "erase", 200, 0, len(m.bytes)
	}
}

func (m *model) tick() {
	if m.left == 0 {
		return
	}
	m.left--
	if m.left > 0 {
		return
	}
	for i := m.from; i < m.from+m.many; i++ {
		if m.does == "program" {
			m.bytes[i] = lost(m.bytes[i], m.value)
		} else {
			m.bytes[i] = 255
		}
	}
}

// lost is a byte without the bits that another one hasn't, bit by bit.
func lost(b, other byte) byte {
	for bit := byte(128); bit > 0; bit /= 2 {
		if b&bit != 0 && other&bit == 0 {
			b -= bit
		}
	}
	return b
}

func (m *model) read(a int) byte {
	at := m.place(a)
	switch {
	case m.left > 0:
		m.reads++
		return m.tells()
	case m.identifies && at%2 == 0:
		return 0xbf
	case m.identifies:
		return byte(len(m.bytes) / 256)
	}
	return m.bytes[at]
}

// tells is the byte of the latest of the reads while it is busy.
func (m *model) tells() byte {
	var v byte
	if m.does == "program" && m.value < 128 {
		v += 128
	}
	if m.reads%2 == 0 {
		v += 64
	}
	return v
}

func (m *model) waits() api.Wait {
	switch {
	case m.left == 0:
		return api.Wait{}
	case m.does == "program":
		return api.Wait{Kind: 1, From: m.from, Many: 1, Value: m.value}
	}
	return api.Wait{Kind: 2, From: m.from, Many: m.many}
}

func (m *model) cut(pick []byte) []byte {
	b := append([]byte(nil), m.bytes...)
	if m.left == 0 {
		return b
	}
	for i := 0; i < m.many && i < len(pick); i++ {
		if m.does == "program" {
			b[m.from] = lost(b[m.from], pick[0])
		} else {
			b[m.from+i] = pick[i]
		}
	}
	return b
}
