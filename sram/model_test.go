package sram

import "fmt"

// act is what anybody may do with a chip that changes it: a byte for its latch, or a write.
type act struct {
	latch bool
	at    int
	value byte
}

func (a act) String() string {
	if a.latch {
		return fmt.Sprintf("Latch(%02x)", a.value)
	}
	return fmt.Sprintf("Write(%d, %02x)", a.at, a.value)
}

func latches(v byte) act { return act{latch: true, value: v} }

func writes(at int, v byte) act { return act{at: at, value: v} }

// model is a chip as the chapter tells it, word by word: it has no bytes of its own, but what was there at first, and all that was done since.
type model struct {
	first []byte
	done  []act
}

func newModel(b []byte) *model { return &model{first: append([]byte(nil), b...)} }

// locked is told by the latest byte for the latch.
func (m *model) locked() bool {
	is := true
	for _, a := range m.done {
		if a.latch {
			is = a.value != 165
		}
	}
	return is
}

// place is what the chapter calls an address.
func (m *model) place(a int) int {
	if a < 0 {
		return 0
	}
	return a - a/len(m.first)*len(m.first)
}

// do tells whether a write writes.
func (m *model) do(a act) bool {
	may := !a.latch && !m.locked()
	m.done = append(m.done, a)
	return may
}

// bytes is what was there at first, with each write over it that wasn't kept off.
func (m *model) bytes() []byte {
	b := append([]byte(nil), m.first...)
	open := false
	for _, a := range m.done {
		switch {
		case a.latch:
			open = a.value == 165
		case open:
			b[m.place(a.at)] = a.value
		}
	}
	return b
}

// copy is one with the same past.
func (m *model) copy() *model {
	return &model{first: m.first, done: append([]act(nil), m.done...)}
}
