package eeprom

import (
	"fmt"
	"slices"
	"strconv"
)

// kinds are the chapter's rows, told once more: the first one stands for no chip.
var kinds = [...]struct{ bytes, page, wide, blocks int }{
	{},
	{128, 8, 1, 0}, {256, 8, 1, 0}, {512, 16, 1, 1}, {1024, 16, 1, 2}, {2048, 16, 1, 3},
	{4096, 32, 2, 0}, {8192, 32, 2, 0}, {16384, 64, 2, 0}, {32768, 64, 2, 0}, {65536, 128, 2, 0},
}

// pair is a byte and the place that it is for.
type pair struct {
	at    int
	value byte
}

// model is a chip as the chapter tells it, word by word. What it does and what it listens for are words, bits are a text.
type model struct {
	kind      int
	bytes     []byte
	scl, sda  bool // the lines, as they were last
	pulls     bool
	does      string // idles, listens, acknowledges, sends, asks
	of        string // device, address, data: what it listens for, or will; told: it will send
	bits      string // those that were taken, or those that weren't told yet
	heard     string // the address's bits
	block     int
	pointer   int
	collected []pair // in the order in which they came
	waits     []pair
	left      int
	last      string // what the lines told last
}

func newModel(kind int, b []byte) *model {
	return &model{kind: kind, bytes: append([]byte(nil), b...), scl: true, sda: true, does: "idles"}
}

func (m *model) step(scl, sda, wp bool) bool {
	if m.left > 0 {
		m.left--
		if m.left == 0 {
			for _, x := range m.waits {
				m.bytes[x.at] = x.value
			}
			m.waits = nil
		}
	}
	line := sda
	if m.pulls {
		line = false
	}
	m.last = m.tells(scl, line)
	m.scl, m.sda = scl, line
	switch m.last {
	case "start":
		m.does, m.of, m.bits, m.pulls, m.collected = "listens", "device", "", false, nil
	case "stop":
		m.stop(wp)
	case "rise":
		m.rise(line)
	case "fall":
		m.fall()
	}
	if m.pulls {
		return false
	}
	return sda
}

func (m *model) tells(scl, sda bool) string {
	if !m.scl && scl {
		return "rise"
	}
	if m.scl && !scl {
		return "fall"
	}
	if scl && m.sda && !sda {
		return "start"
	}
	if scl && !m.sda && sda {
		return "stop"
	}
	return "none"
}

func (m *model) stop(wp bool) {
	if m.does == "listens" && m.of == "data" && len(m.bits) == 1 && len(m.collected) != 0 && !wp {
		m.waits, m.left = m.collected, 50
	}
	m.does, m.pulls, m.collected = "idles", false, nil
}

func (m *model) rise(line bool) {
	if m.does == "listens" {
		if line {
			m.bits += "1"
		} else {
			m.bits += "0"
		}
	}
	if m.does == "asks" && line {
		m.does = "idles"
	}
}

func (m *model) fall() {
	switch m.does {
	case "listens":
		if len(m.bits) == 8 {
			m.does, m.pulls = "acknowledges", true
			m.judge()
		}
	case "acknowledges":
		m.pulls = false
		m.does, m.bits = "listens", ""
		if m.of == "told" {
			m.sends()
		}
	case "sends":
		if m.bits == "" {
			m.does, m.pulls = "asks", false
		} else {
			m.tellBit()
		}
	case "asks":
		m.sends()
	}
}

func (m *model) sends() {
	m.does, m.bits = "sends", fmt.Sprintf("%08b", m.bytes[m.pointer])
	m.pointer++
	if m.pointer == len(m.bytes) {
		m.pointer = 0
	}
	m.tellBit()
}

func (m *model) tellBit() {
	m.pulls, m.bits = m.bits[0] == '0', m.bits[1:]
}

func (m *model) judge() {
	row := kinds[m.kind]
	switch m.of {
	case "device":
		block := number(m.bits[4:7])
		switch {
		case m.bits[:4] != "1010" || block >= []int{1, 2, 4, 8}[row.blocks] || m.left != 0:
			m.does, m.pulls = "idles", false
		case m.bits[7] == '0':
			m.block, m.heard, m.of = block, "", "address"
		default:
			if row.blocks != 0 {
				m.pointer = 256*block + m.pointer%256
			}
			m.of = "told"
		}
	case "address":
		m.heard += m.bits
		if len(m.heard) == 8*row.wide {
			at := number(m.heard)
			if row.blocks != 0 {
				at += 256 * m.block
			}
			m.pointer, m.of = at%row.bytes, "data"
		}
	case "data":
		m.collected = append(m.collected, pair{m.pointer, byte(number(m.bits))})
		m.pointer++
		if m.pointer%row.page == 0 {
			m.pointer -= row.page
		}
	}
}

// waiting is what waits, place by place: of one that came twice what came last.
func (m *model) waiting() (places []int, values []byte) {
	l := slices.Clone(m.waits)
	slices.SortStableFunc(l, func(a, b pair) int { return a.at - b.at })
	for i, x := range l {
		if i+1 == len(l) || l[i+1].at != x.at {
			places, values = append(places, x.at), append(values, x.value)
		}
	}
	return places, values
}

// cut is what P10.2 tells of Cut.
func (m *model) cut(pick []byte) []byte {
	b := append([]byte(nil), m.bytes...)
	places, _ := m.waiting()
	for i, at := range places {
		if i < len(pick) {
			b[at] = pick[i]
		}
	}
	return b
}

func number(bits string) int {
	n, _ := strconv.ParseUint(bits, 2, 32)
	return int(n)
}
