package head

import (
	"bytes"
	"encoding/binary"
	"hash/crc32"
	"math"
	"testing"

	"keepsake/api"
)

// body is a head's bytes ahead of the check sum, laid by the library: each part as it is handed in, whether it can be or not.
func body(eeprom, flash, sram byte, length uint32, seq uint64, sum uint32) []byte {
	b := []byte{'K', 'E', 'E', 'P', 1, eeprom, flash, sram}
	b = binary.LittleEndian.AppendUint32(b, length)
	b = binary.LittleEndian.AppendUint64(b, seq)
	return binary.LittleEndian.AppendUint32(b, sum)
}

// summed is a body with its check sum behind it.
func summed(b []byte) []byte {
	return binary.LittleEndian.AppendUint32(bytes.Clone(b), crc32.ChecksumIEEE(b))
}

// resummed is a head's bytes with the check sum made right again.
func resummed(b []byte) []byte { return summed(b[:24]) }

// bytesOf is what a head that can be must be encoded as.
func bytesOf(h api.Head) []byte {
	g := h.Geometry
	return summed(body(byte(g.Eeprom), byte(g.Flash), byte(g.Sram), uint32(h.Length), h.Seq, h.Sum))
}

// inTable is a kind's bytes as chapter 3 has them, with 0 of no EEPROM.
func inTable(kind int) int {
	return [11]int{0, 128, 256, 512, 1024, 2048, 4096, 8192, 16384, 32768, 65536}[kind]
}

// whole is a head whose Length is right, of chips that can be.
func whole(eeprom, flash, sram int, seq uint64, sum uint32) api.Head {
	return api.Head{
		Geometry: api.Geometry{Eeprom: eeprom, Flash: flash, Sram: sram},
		Length:   inTable(eeprom) + flash*256 + sram*64,
		Seq:      seq,
		Sum:      sum,
	}
}

// mixed tells numbers that look like chance and are always the same.
func mixed(seed uint64) func() uint64 {
	return func() uint64 {
		seed ^= seed << 13
		seed ^= seed >> 7
		seed ^= seed << 17
		return seed
	}
}

// someHeads are heads that can be: at the ends of each part, and with numbers that fill each of their bytes.
func someHeads() []api.Head {
	heads := []api.Head{
		{},
		whole(0, 0, 0, 1, 0),
		whole(0, 0, 0, math.MaxUint64, math.MaxUint32),
		whole(1, 1, 1, 0x0102030405060708, 0xa1b2c3d4),
		whole(3, 2, 5, 0xf1e2d3c4b5a69788, 0x11223344),
		whole(10, 0, 0, 1<<63, 1<<31),
		whole(0, 64, 0, 1<<32, 1),
		whole(0, 0, 128, 1<<32-1, 255),
		whole(10, 64, 128, 0x8000000000000001, 0x80000001),
		whole(9, 63, 127, 0x00ff00ff00ff00ff, 0xff00ff00),
	}
	next := mixed(11)
	for range 10 {
		heads = append(heads, whole(int(next()%11), int(next()%65), int(next()%129), next(), uint32(next())))
	}
	return heads
}

// encodes asks Encode for those bytes.
func encodes(t *testing.T, h api.Head, want []byte) {
	t.Helper()
	if got, e := Encode(h); e != api.OK || !bytes.Equal(got, want) {
		t.Errorf("Encode(%+v) = %x, %v, want %x", h, got, e, want)
	}
}

// decodes asks Decode for that head.
func decodes(t *testing.T, b []byte, want api.Head) {
	t.Helper()
	if got, e := Decode(b); e != api.OK || got != want {
		t.Errorf("Decode(%x) = %+v, %v, want %+v", b, got, e, want)
	}
}

// refuses asks Encode for ErrGeometry, and nothing beside it.
func refuses(t *testing.T, h api.Head) {
	t.Helper()
	if got, e := Encode(h); e != api.ErrGeometry || len(got) != 0 {
		t.Errorf("Encode(%+v) = %x, %v, want %v", h, got, e, api.ErrGeometry)
	}
}

// fails asks Decode for that error, and nothing beside it.
func fails(t *testing.T, b []byte, want api.Errno) {
	t.Helper()
	if got, e := Decode(b); e != want || got != (api.Head{}) {
		t.Errorf("Decode(%x) = %+v, %v, want %v", b, got, e, want)
	}
}

func TestNumbersOfTheFace(t *testing.T) {
	if Version != 1 || Long != 28 {
		t.Errorf("Version %d, Long %d", Version, Long)
	}
}

// P4.1

func TestEncodeOfKnownHeads(t *testing.T) {
	for _, x := range []struct {
		h    api.Head
		want string
	}{
		{whole(0, 0, 0, 1, 0), "KEEP\x01\x00\x00\x00" + "\x00\x00\x00\x00" + "\x01\x00\x00\x00\x00\x00\x00\x00" + "\x00\x00\x00\x00" + "\x47\x0b\xeb\x51"},
		{whole(10, 64, 128, 0x0102030405060708, 0xa1b2c3d4), "KEEP\x01\x0a\x40\x80" + "\x00\x60\x01\x00" + "\x08\x07\x06\x05\x04\x03\x02\x01" + "\xd4\xc3\xb2\xa1" + "\x7b\xd0\x22\x88"},
		{whole(3, 2, 5, 0xf1e2d3c4b5a69788, 0x11223344), "KEEP\x01\x03\x02\x05" + "\x40\x05\x00\x00" + "\x88\x97\xa6\xb5\xc4\xd3\xe2\xf1" + "\x44\x33\x22\x11" + "\x72\x6d\x8f\x00"},
	} {
		encodes(t, x.h, []byte(x.want))
	}
}

func TestEncodeOfEveryRightGeometry(t *testing.T) {
	next := mixed(1)
	for kind := range 11 {
		for sectors := range 65 {
			for units := range 129 {
				h := whole(kind, sectors, units, next(), uint32(next()))
				encodes(t, h, bytesOf(h))
			}
		}
	}
}

func TestEachByteOfTheNumbers(t *testing.T) {
	for at := range 8 {
		for v := range 256 {
			h := whole(2, 3, 4, uint64(v)<<(8*at), 0)
			encodes(t, h, bytesOf(h))
			got, _ := Encode(h)
			if len(got) != 28 || got[12+at] != byte(v) {
				t.Errorf("byte %d of Seq %d: %x", at, h.Seq, got)
			}
		}
	}
	for at := range 4 {
		for v := range 256 {
			h := whole(2, 3, 4, 0, uint32(v)<<(8*at))
			encodes(t, h, bytesOf(h))
			got, _ := Encode(h)
			if len(got) != 28 || got[20+at] != byte(v) {
				t.Errorf("byte %d of Sum %d: %x", at, h.Sum, got)
			}
		}
	}
}

// outside are numbers that aren't from 0 to most: next to the ends, far from them, and such whose lowest bits alone would be right.
func outside(most int) []int {
	out := []int{-1, -2, -most, -most - 1, most + 1, most + 2, 255, 256, math.MinInt, math.MinInt + 1, math.MaxInt, math.MaxInt - 1}
	for shift := 8; shift <= 62; shift++ {
		for _, low := range []int{0, 1, 3, most} {
			out = append(out, 1<<shift+low, -(1<<shift)+low)
		}
	}
	return out
}

// refusesWith asks for ErrGeometry of a head with one wrong part, whatever the Length is that it may seem to need: none, the other parts', or theirs and the wrong one's.
func refusesWith(t *testing.T, h api.Head, others int, wrong ...int) {
	t.Helper()
	h.Length = 0
	refuses(t, h)
	h.Length = others
	refuses(t, h)
	for _, n := range wrong {
		h.Length = others + n
		refuses(t, h)
	}
}

func TestEncodeRefusesEachPartAlone(t *testing.T) {
	for _, rest := range []api.Head{{}, whole(1, 1, 1, 2, 3), whole(3, 30, 100, 4, 5), whole(10, 64, 128, 6, 7)} {
		g := rest.Geometry
		for _, n := range outside(10) {
			h := rest
			h.Geometry.Eeprom = n
			refusesWith(t, h, rest.Length-inTable(g.Eeprom), 64, 128, 65536, 131072, inTable(int(byte(n))%11))
		}
		for _, n := range outside(64) {
			h := rest
			h.Geometry.Flash = n
			refusesWith(t, h, rest.Length-g.Flash*256, n*256, int(byte(n))*256)
		}
		for _, n := range outside(128) {
			h := rest
			h.Geometry.Sram = n
			refusesWith(t, h, rest.Length-g.Sram*64, n*64, int(byte(n))*64)
		}
	}
}

// otherLengths are such as aren't right: next to it, far from it, and such as have the same lowest bits.
func otherLengths(right int) []int {
	var out []int
	for _, n := range []int{0, 1, -1, right + 1, right - 1, -right, right / 2, 2 * right, right + 64, right - 64, right + 90112, math.MaxInt, math.MinInt} {
		if n != right {
			out = append(out, n)
		}
	}
	for shift := range 63 {
		out = append(out, right+1<<shift, right-1<<shift, right^1<<shift)
	}
	return append(out, right^math.MinInt)
}

func TestEncodeRefusesALengthThatIsNotTheTotal(t *testing.T) {
	for _, h := range someHeads() {
		for _, n := range otherLengths(h.Length) {
			other := h
			other.Length = n
			refuses(t, other)
		}
	}
}

func TestEncodeRefusesAllPartsTogether(t *testing.T) {
	refuses(t, api.Head{Geometry: api.Geometry{Eeprom: 11, Flash: 65, Sram: 129}, Length: 24896, Seq: 1, Sum: 2})
	refuses(t, api.Head{Geometry: api.Geometry{Eeprom: -1, Flash: -1, Sram: -1}, Length: -320})
	refuses(t, api.Head{Geometry: api.Geometry{Flash: -1, Sram: 4}})
	refuses(t, api.Head{Geometry: api.Geometry{Eeprom: 256, Flash: 256, Sram: 256}})
	refuses(t, api.Head{Length: 1})
}

// P4.2

func TestDecodeOfKnownHeads(t *testing.T) {
	decodes(t, []byte("KEEP\x01\x00\x00\x00\x00\x00\x00\x00\x01\x00\x00\x00\x00\x00\x00\x00\x00\x00\x00\x00\x47\x0b\xeb\x51"), whole(0, 0, 0, 1, 0))
	decodes(t, []byte("KEEP\x01\x0a\x40\x80\x00\x60\x01\x00\x08\x07\x06\x05\x04\x03\x02\x01\xd4\xc3\xb2\xa1\x7b\xd0\x22\x88"), whole(10, 64, 128, 0x0102030405060708, 0xa1b2c3d4))
}

func TestDecodeOfFewerBytes(t *testing.T) {
	fails(t, nil, api.ErrShort)
	fails(t, []byte{}, api.ErrShort)
	for _, h := range someHeads() {
		b := append(bytesOf(h), bytesOf(h)...)
		for n := range 28 {
			fails(t, b[:n], api.ErrShort) // though more would lie behind it
			fails(t, b[:n:n], api.ErrShort)
			fails(t, make([]byte, n), api.ErrShort)
		}
		decodes(t, b[:28], h)
		decodes(t, b[:28:28], h)
		decodes(t, b[:29], h)
		decodes(t, b, h)
	}
}

func TestDecodeOfOtherBeginnings(t *testing.T) {
	for _, h := range someHeads() {
		for at := range 4 {
			for v := range 256 {
				b := bytesOf(h)
				if b[at] == byte(v) {
					continue
				}
				b[at] = byte(v)
				fails(t, b, api.ErrMagic)
				fails(t, resummed(b), api.ErrMagic)
			}
		}
		for _, word := range []string{"keep", "PEEK", "EKPE", "KEEK", "\x00\x00\x00\x00", "\xff\xff\xff\xff"} {
			fails(t, resummed(append([]byte(word), bytesOf(h)[4:]...)), api.ErrMagic)
		}
		fails(t, append([]byte{0}, bytesOf(h)...), api.ErrMagic) // a head that isn't at the beginning
	}
	fails(t, make([]byte, 28), api.ErrMagic)
	fails(t, make([]byte, 4096), api.ErrMagic)
}

func TestDecodeOfOtherVersions(t *testing.T) {
	for _, h := range someHeads() {
		for v := range 256 {
			if v == 1 {
				continue
			}
			b := bytesOf(h)
			b[4] = byte(v)
			fails(t, b, api.ErrVersion)
			fails(t, resummed(b), api.ErrVersion)
		}
	}
}

func TestDecodeOfOtherCheckSums(t *testing.T) {
	for _, h := range someHeads() {
		for at := 5; at < 28; at++ { // what is summed, and the sum
			for v := range 256 {
				b := bytesOf(h)
				if b[at] == byte(v) {
					continue
				}
				b[at] = byte(v)
				fails(t, b, api.ErrSum)
			}
		}
		b := bytesOf(h)
		sum := binary.LittleEndian.Uint32(b[24:])
		for _, other := range []uint32{0, math.MaxUint32, ^sum, sum + 1, sum - 1, h.Sum, crc32.ChecksumIEEE(b[:20]), crc32.ChecksumIEEE(b[4:24])} {
			if other != sum {
				binary.LittleEndian.PutUint32(b[24:], other)
				fails(t, b, api.ErrSum)
			}
		}
		binary.BigEndian.PutUint32(b[24:], sum)
		fails(t, b, api.ErrSum)
	}
}

// Of each part alone: the check sum is right, and the Length such as may be taken for right.
func TestDecodeOfChipsThatCannotBe(t *testing.T) {
	for n := 11; n < 256; n++ {
		for _, length := range []int{0, 448, 320, 65536 << (n % 8)} {
			fails(t, summed(body(byte(n), 1, 1, uint32(length), 9, 8)), api.ErrGeometry)
			fails(t, summed(body(byte(n), 0, 0, uint32(length), 9, 8)), api.ErrGeometry)
		}
	}
	for n := 65; n < 256; n++ {
		for _, length := range []int{0, 448, 192, 192 + 256*n} {
			fails(t, summed(body(1, byte(n), 1, uint32(length), 9, 8)), api.ErrGeometry)
			fails(t, summed(body(0, byte(n), 0, uint32(256*n), 9, 8)), api.ErrGeometry)
		}
	}
	for n := 129; n < 256; n++ {
		for _, length := range []int{0, 448, 384, 384 + 64*n} {
			fails(t, summed(body(1, 1, byte(n), uint32(length), 9, 8)), api.ErrGeometry)
			fails(t, summed(body(0, 0, byte(n), uint32(64*n), 9, 8)), api.ErrGeometry)
		}
	}
	fails(t, summed(body(255, 255, 255, 0, 0, 0)), api.ErrGeometry)
	fails(t, summed(body(11, 65, 129, 24896, 0, 0)), api.ErrGeometry)
}

func TestDecodeOfALengthThatIsNotTheTotal(t *testing.T) {
	for _, h := range someHeads() {
		g := h.Geometry
		for _, n := range otherLengths(h.Length) {
			if other := uint32(n); other != uint32(h.Length) {
				fails(t, summed(body(byte(g.Eeprom), byte(g.Flash), byte(g.Sram), other, h.Seq, h.Sum)), api.ErrGeometry)
			}
		}
	}
}

func TestDecodeOfEveryPartAlone(t *testing.T) {
	for at := range 8 {
		for v := range 256 {
			h := whole(5, 6, 7, uint64(v)<<(8*at), 0)
			decodes(t, bytesOf(h), h)
		}
	}
	for at := range 4 {
		for v := range 256 {
			h := whole(5, 6, 7, 0, uint32(v)<<(8*at))
			decodes(t, bytesOf(h), h)
		}
	}
}

// Each set of faults at once: the first one is told, whatever the others are.
func TestDecodeTellsTheFirstError(t *testing.T) {
	const short, beginning, version, sum, chips = 1, 2, 4, 8, 16
	order := []struct {
		fault int
		want  api.Errno
	}{{short, api.ErrShort}, {beginning, api.ErrMagic}, {version, api.ErrVersion}, {sum, api.ErrSum}, {chips, api.ErrGeometry}}
	for faults := 1; faults < 32; faults++ {
		b := body(1, 1, 1, 448, 77, 88)
		if faults&chips != 0 {
			b[5] = 11
		}
		if faults&version != 0 {
			b[4] = 2
		}
		if faults&beginning != 0 {
			b[3] = 'k'
		}
		b = summed(b)
		if faults&sum != 0 {
			b[26] ^= 1
		}
		if faults&short != 0 {
			b = b[:27]
		}
		for _, x := range order {
			if faults&x.fault != 0 {
				fails(t, b, x.want)
				break
			}
		}
	}
}

// P4.3

func TestWhatIsEncodedIsDecoded(t *testing.T) {
	next := mixed(2)
	for kind := range 11 {
		for sectors := range 65 {
			for units := range 129 {
				h := whole(kind, sectors, units, next(), uint32(next()))
				b, e := Encode(h)
				if e != api.OK {
					t.Fatalf("Encode(%+v) tells %v", h, e)
				}
				decodes(t, b, h)
			}
		}
	}
}

func TestWhatStandsBehindPlaysNoPart(t *testing.T) {
	next := mixed(3)
	for _, h := range someHeads() {
		b, _ := Encode(h)
		for _, n := range []int{1, 2, 3, 4, 27, 28, 29, 100, 4068, 70000} {
			noise := make([]byte, n)
			decodes(t, append(bytes.Clone(b), noise...), h)
			for i := range noise {
				noise[i] = byte(next() >> 20)
			}
			decodes(t, append(bytes.Clone(b), noise...), h)
		}
		for _, other := range someHeads() {
			decodes(t, append(bytes.Clone(b), bytesOf(other)...), h)
		}
	}
}

// What is decoded is what Encode makes: there is one text for each head, and one head for each text.
func TestWhatIsDecodedIsEncoded(t *testing.T) {
	next := mixed(4)
	decoded := 0
	for range 20000 {
		b := body(byte(next()%13), byte(next()%70), byte(next()%140), 0, next(), uint32(next()))
		if b[5] <= 10 && next()%4 > 0 {
			binary.LittleEndian.PutUint32(b[8:], uint32(inTable(int(b[5]))+int(b[6])*256+int(b[7])*64))
		}
		b = summed(b)
		h, e := Decode(b)
		switch e {
		case api.OK:
			decoded++
			encodes(t, h, b)
		case api.ErrGeometry:
		default:
			t.Errorf("Decode(%x) tells %v", b, e)
		}
	}
	if decoded < 1000 {
		t.Errorf("only %d of the test's heads can be", decoded)
	}
}

// flipped is a text with the bits of pattern turned over, the lowest one at bit from; bits behind its end are none.
func flipped(text []byte, from int, pattern uint32) []byte {
	out := bytes.Clone(text)
	for k := range 32 {
		if at := from + k; pattern>>k&1 == 1 && at < 8*len(out) {
			out[at/8] ^= 1 << (at % 8)
		}
	}
	return out
}

// patterns are bits within 32 in a row, the first one among them: rows of each length, each other bit alone, and mixed ones.
func patterns() []uint32 {
	out := []uint32{1, 0x80000001, 0xedb88321, 0xffffffff, 0x55555555}
	for k := 1; k < 32; k++ {
		out = append(out, 1|1<<k, 1<<k-1|1, math.MaxUint32<<k|1)
	}
	next := mixed(5)
	for range 100 {
		out = append(out, uint32(next())|1)
	}
	return out
}

func TestWhatDiffersWithin32BitsIsNotDecoded(t *testing.T) {
	for _, h := range someHeads() {
		b, _ := Encode(h)
		for from := range 8 * len(b) {
			for _, p := range patterns() {
				other := flipped(b, from, p)
				switch {
				case !bytes.Equal(other[:4], b[:4]):
					fails(t, other, api.ErrMagic)
				case other[4] != b[4]:
					fails(t, other, api.ErrVersion)
				default:
					fails(t, other, api.ErrSum)
				}
			}
		}
	}
}

// R1, R3, R5, R6

func TestWhateverBytesAreHandedIn(t *testing.T) {
	next := mixed(6)
	for n := range 200 {
		b := make([]byte, n)
		for range 50 {
			for i := range b {
				b[i] = byte(next() >> 20)
			}
			want := api.ErrMagic
			if n < 28 {
				want = api.ErrShort
			} else if string(b[:4]) == "KEEP" {
				t.Fatal("the test's bytes begin as a head does")
			}
			fails(t, b, want)
			if n >= 5 {
				copy(b, "KEEP\x01")
				if want == api.ErrMagic {
					want = api.ErrSum
				}
				fails(t, b, want)
			}
		}
	}
}

func TestWhatIsHandedInStays(t *testing.T) {
	for _, h := range someHeads() {
		text := append(bytesOf(h), "behind it"...)
		before := bytes.Clone(text)
		decodes(t, text, h)
		if !bytes.Equal(text, before) {
			t.Errorf("the text was changed: %x, it was %x", text, before)
		}
		text[5] ^= 1
		before = bytes.Clone(text)
		fails(t, text, api.ErrSum)
		if !bytes.Equal(text, before) {
			t.Errorf("the text was changed: %x, it was %x", text, before)
		}
	}
}

func TestWhatIsAnsweredIsMemoryOfItsOwn(t *testing.T) {
	for _, h := range someHeads() {
		first, _ := Encode(h)
		second, _ := Encode(h)
		for i := range first {
			first[i] ^= 255
		}
		if !bytes.Equal(second, bytesOf(h)) {
			t.Errorf("two answers share memory: %x", second)
		}
		_ = append(first[:0], make([]byte, 28)...)
		encodes(t, h, bytesOf(h))
	}
}

// What was asked ahead plays no part.
func TestAnswersStayTheSame(t *testing.T) {
	h := whole(3, 2, 5, 1344, 7)
	for _, other := range someHeads() {
		b, _ := Encode(other)
		Decode(b)
		encodes(t, h, bytesOf(h))
		decodes(t, bytesOf(h), h)
		Decode(b[:3])
		Encode(api.Head{Length: 5})
		encodes(t, h, bytesOf(h))
		decodes(t, bytesOf(h), h)
	}
}
