package disk

import (
	"bytes"
	"math"
	"slices"
	"strings"
	"testing"

	"keepsake/api"
)

// opened is a disk with these lasting bytes.
func opened(t *testing.T, size int, text string) *Disk {
	t.Helper()
	d, e := Open(size, []byte(text))
	if e != api.OK || d == nil {
		t.Fatalf("Open(%d, %q): %v", size, text, e)
	}
	return d
}

// wrote writes sectors one behind the other, from the first one on; a sector told as "" is left out.
func wrote(t *testing.T, d *Disk, texts ...string) {
	t.Helper()
	for i, text := range texts {
		if text != "" {
			tell(t, "Write", d.Write(i, []byte(text)), api.OK)
		}
	}
}

func tell(t *testing.T, what string, got, want api.Errno) {
	t.Helper()
	if got != want {
		t.Errorf("%s: %v, want %v", what, got, want)
	}
}

// lasts holds a disk's lasting bytes and its sectors that aren't synced against what they must be.
func lasts(t *testing.T, d *Disk, text string, unsynced ...int) {
	t.Helper()
	if got := string(d.Bytes()); got != text {
		t.Errorf("lasting: %q, want %q", got, text)
	}
	if got := d.Unsynced(); !slices.Equal(got, unsynced) {
		t.Errorf("not synced: %v, want %v", got, unsynced)
	}
}

func counts(t *testing.T, d *Disk, ops, writes int) {
	t.Helper()
	if d.Ops() != ops || d.Writes() != writes {
		t.Errorf("%d operations and %d writes, want %d and %d", d.Ops(), d.Writes(), ops, writes)
	}
}

// reads holds what Read tells of a sector against text.
func reads(t *testing.T, d *Disk, i int, text string) {
	t.Helper()
	if b, e := d.Read(i); e != api.OK || string(b) != text {
		t.Errorf("Read(%d): %q, %v, want %q", i, b, e, text)
	}
}

// refuses holds that Read tells an error, and no bytes beside it.
func refuses(t *testing.T, d *Disk, i int, want api.Errno) {
	t.Helper()
	if b, e := d.Read(i); e != want || len(b) != 0 {
		t.Errorf("Read(%d): %q, %v, want %v and nothing", i, b, e, want)
	}
}

var wrongSizes = []int{math.MinInt, -4096, -1, 0, 4097, 8192, 1 << 32, 1<<52 + 1, 1 << 62, math.MaxInt}

// P2.1

func TestNewWithinItsEdges(t *testing.T) {
	for _, sectors := range []int{0, 1, 2, 7, 4095, 4096} {
		for _, size := range []int{1, 2, 3, 4095, 4096} {
			d, e := New(sectors, size)
			if e != api.OK || d == nil {
				t.Fatalf("New(%d, %d): %v", sectors, size, e)
			}
			if d.Sectors() != sectors || d.Size() != size {
				t.Errorf("New(%d, %d) has %d sectors of %d", sectors, size, d.Sectors(), d.Size())
			}
			if !bytes.Equal(d.Bytes(), make([]byte, sectors*size)) {
				t.Errorf("New(%d, %d): lasting bytes aren't that many, all 0", sectors, size)
			}
			if len(d.Unsynced()) != 0 {
				t.Errorf("New(%d, %d): cached are %v", sectors, size, d.Unsynced())
			}
			counts(t, d, 0, 0)
		}
	}
}

func TestNewBeyondItsEdges(t *testing.T) {
	refuse := func(sectors, size int) {
		if d, e := New(sectors, size); e != api.ErrArg || d != nil {
			t.Errorf("New(%d, %d): %v, %v", sectors, size, d, e)
		}
	}
	for _, sectors := range []int{math.MinInt, -4096, -1, 4097, 1 << 32, 1 << 62, math.MaxInt} {
		refuse(sectors, 1)
		refuse(sectors, 4096)
		refuse(sectors, 0)
	}
	for _, size := range wrongSizes {
		refuse(0, size)
		refuse(1, size)
		refuse(2, size)
		refuse(4096, size)
	}
	refuse(math.MinInt, math.MinInt)
	refuse(math.MaxInt, math.MaxInt)
	refuse(-1, -1)
}

func TestOpenWithinItsEdges(t *testing.T) {
	for _, x := range []struct{ size, sectors int }{{1, 0}, {1, 1}, {1, 4095}, {1, 4096}, {2, 3}, {3, 4096}, {4095, 1}, {4096, 0}, {4096, 1}, {4096, 4096}} {
		text := make([]byte, x.size*x.sectors)
		for i := range text {
			text[i] = byte(i*7 + i>>8)
		}
		d, e := Open(x.size, text)
		if e != api.OK || d == nil {
			t.Fatalf("Open(%d, %d bytes): %v", x.size, len(text), e)
		}
		if d.Sectors() != x.sectors || d.Size() != x.size || !bytes.Equal(d.Bytes(), text) {
			t.Errorf("Open(%d, %d bytes) has %d sectors of %d", x.size, len(text), d.Sectors(), d.Size())
		}
		lasts(t, d, string(text))
		counts(t, d, 0, 0)
	}
}

func TestOpenLaysSectorBySector(t *testing.T) {
	d := opened(t, 3, "abcdefghi")
	reads(t, d, 0, "abc")
	reads(t, d, 1, "def")
	reads(t, d, 2, "ghi")
}

func TestOpenBeyondItsEdges(t *testing.T) {
	refuse := func(size, many int) {
		if d, e := Open(size, make([]byte, many)); e != api.ErrArg || d != nil {
			t.Errorf("Open(%d, %d bytes): %v, %v", size, many, d, e)
		}
	}
	for _, size := range wrongSizes {
		for _, many := range []int{0, 1, 4096, 4097, 8192} {
			refuse(size, many)
		}
	}
	for _, x := range []struct{ size, many int }{{2, 1}, {2, 3}, {3, 4}, {3, 5}, {4096, 1}, {4096, 4095}, {4096, 4097}} {
		refuse(x.size, x.many) // no multiple
	}
	for _, x := range []struct{ size, many int }{{1, 4097}, {2, 8194}, {3, 3 * 5000}, {4096, 4096 * 4097}} {
		refuse(x.size, x.many) // longer
	}
	refuse(2, 8193)
}

func TestOpenTakesNilAsEmpty(t *testing.T) {
	for _, b := range [][]byte{nil, {}} {
		d, e := Open(5, b)
		if e != api.OK || d.Sectors() != 0 || d.Size() != 5 || len(d.Bytes()) != 0 {
			t.Errorf("Open(5, %v): %v", b, e)
		}
	}
	if d, e := Open(0, nil); e != api.ErrArg || d != nil {
		t.Errorf("Open(0, nil): %v", e)
	}
}

// P2.2

func TestReadTellsCachedBytesAheadOfLastingOnes(t *testing.T) {
	d := opened(t, 2, "aabbcc")
	wrote(t, d, "", "BB")
	reads(t, d, 0, "aa")
	reads(t, d, 1, "BB")
	reads(t, d, 2, "cc")
	wrote(t, d, "", "\x00\x00") // bytes 0 are bytes, too
	reads(t, d, 1, "\x00\x00")
	lasts(t, d, "aabbcc", 1)
	tell(t, "Sync", d.Sync(), api.OK)
	reads(t, d, 1, "\x00\x00")
	lasts(t, d, "aa\x00\x00cc")
}

func TestReadOfNoSector(t *testing.T) {
	d := opened(t, 2, "aabb")
	for n, i := range []int{-1, 2, 3, 4095, 4096, 1 << 32, math.MinInt, math.MaxInt} {
		refuses(t, d, i, api.ErrRange)
		counts(t, d, n+1, 0)
	}
	none, _ := New(0, 4)
	refuses(t, none, 0, api.ErrRange)
	refuses(t, none, -1, api.ErrRange)
}

func TestReadTellsPlannedFailureFirst(t *testing.T) {
	d := opened(t, 1, "ab")
	d.Fail(1)
	d.Fail(2)
	d.Fail(3)
	refuses(t, d, -1, api.ErrDisk)
	refuses(t, d, 2, api.ErrDisk)
	refuses(t, d, 1, api.ErrDisk)
	counts(t, d, 3, 0)
	reads(t, d, 1, "b")
}

func TestWriteCachesAndTheLastOneHolds(t *testing.T) {
	d := opened(t, 2, "aabb")
	wrote(t, d, "xx", "yy")
	wrote(t, d, "zz")
	lasts(t, d, "aabb", 0, 1)
	counts(t, d, 3, 3)
	reads(t, d, 0, "zz")
	tell(t, "Sync", d.Sync(), api.OK)
	lasts(t, d, "zzyy")
}

func TestWriteRefusesInItsOrder(t *testing.T) {
	sizes := []string{"", "x", "xx", "xxx", strings.Repeat("x", 5000)}
	d := opened(t, 2, "aabb")
	ops := 0
	for _, i := range []int{math.MinInt, -2, -1, 0, 1, 2, 3, 4096, 1 << 32, math.MaxInt} {
		for _, text := range sizes {
			for _, planned := range []bool{true, false} {
				want := api.ErrArg
				switch {
				case planned:
					want = api.ErrDisk
					d.Fail(ops + 1)
				case i < 0:
					want = api.ErrRange
				case i >= 2:
					want = api.ErrFull
				case len(text) == 2:
					continue
				}
				if e := d.Write(i, []byte(text)); e != want {
					t.Errorf("Write(%d, %d bytes), planned %v: %v, want %v", i, len(text), planned, e, want)
				}
				ops++
				counts(t, d, ops, 0)
				lasts(t, d, "aabb")
			}
		}
	}
}

func TestWriteThatIsRefusedLeavesWhatIsCached(t *testing.T) {
	d := opened(t, 2, "aabb")
	wrote(t, d, "", "yy")
	tell(t, "a short one", d.Write(1, []byte("z")), api.ErrArg)
	tell(t, "a long one", d.Write(1, []byte("zzz")), api.ErrArg)
	tell(t, "nil", d.Write(1, nil), api.ErrArg)
	d.Fail(5)
	tell(t, "planned", d.Write(1, []byte("zz")), api.ErrDisk)
	reads(t, d, 1, "yy")
	lasts(t, d, "aabb", 1)
	counts(t, d, 6, 1)
}

func TestWriteToADiskWithoutSectors(t *testing.T) {
	d, _ := New(0, 2)
	tell(t, "at 0", d.Write(0, []byte("xx")), api.ErrFull)
	tell(t, "at 0, too short", d.Write(0, nil), api.ErrFull)
	tell(t, "at -1", d.Write(-1, []byte("xx")), api.ErrRange)
	tell(t, "Sync", d.Sync(), api.OK)
	counts(t, d, 4, 0)
}

func TestSyncHasAllThatIsCachedLast(t *testing.T) {
	d := opened(t, 1, "abcdefgh")
	tell(t, "Sync of nothing", d.Sync(), api.OK)
	lasts(t, d, "abcdefgh")
	wrote(t, d, "", "B", "", "D", "", "", "", "H")
	tell(t, "Sync", d.Sync(), api.OK)
	lasts(t, d, "aBcDefgH")
	d.Crash(nil)
	lasts(t, d, "aBcDefgH")
	wrote(t, d, "", "", "", "4")
	lasts(t, d, "aBcDefgH", 3)
	tell(t, "Sync", d.Sync(), api.OK)
	lasts(t, d, "aBc4efgH")
	counts(t, d, 7, 4)
}

func TestSyncThatIsPlannedToFailDoesNothing(t *testing.T) {
	d := opened(t, 1, "ab")
	wrote(t, d, "x", "y")
	d.Fail(3)
	tell(t, "Sync", d.Sync(), api.ErrDisk)
	lasts(t, d, "ab", 0, 1)
	counts(t, d, 3, 2)
	tell(t, "Sync", d.Sync(), api.OK)
	lasts(t, d, "xy")
}

// Fail: words and P2.2

func TestSeveralOperationsArePlannedToFail(t *testing.T) {
	d := opened(t, 1, "ab")
	for _, n := range []int{7, 2, 4, 5, 2, 10} { // in no order, one of them twice
		d.Fail(n)
	}
	counts(t, d, 0, 0) // to plan is no operation
	tell(t, "1", d.Write(0, []byte("p")), api.OK)
	tell(t, "2", d.Write(1, []byte("q")), api.ErrDisk)
	lasts(t, d, "ab", 0)
	tell(t, "3", d.Write(1, []byte("r")), api.OK)
	tell(t, "4", d.Sync(), api.ErrDisk)
	refuses(t, d, 0, api.ErrDisk)
	lasts(t, d, "ab", 0, 1)
	reads(t, d, 0, "p")
	tell(t, "7", d.Sync(), api.ErrDisk)
	tell(t, "8", d.Sync(), api.OK)
	lasts(t, d, "pr")
	reads(t, d, 1, "r")
	refuses(t, d, 1, api.ErrDisk)
	reads(t, d, 1, "r")
	counts(t, d, 11, 2)
}

func TestFailOfWhatIsPastOrNever(t *testing.T) {
	d := opened(t, 1, "ab")
	for _, n := range []int{0, -1, -2, math.MinInt} {
		d.Fail(n)
	}
	reads(t, d, 0, "a")
	reads(t, d, 1, "b")
	for _, n := range []int{1, 2, 0, -1, math.MaxInt, 1 << 32, 1<<32 + 3} {
		d.Fail(n)
	}
	for range 50 {
		reads(t, d, 1, "b")
	}
	counts(t, d, 52, 0)
	d.Fail(52)
	reads(t, d, 0, "a")
	d.Fail(54)
	refuses(t, d, 0, api.ErrDisk)
	d.Fail(54)
	reads(t, d, 0, "a")
}

// What can't fail any more needn't be kept.
func TestPlansThatArePastAreNotKept(t *testing.T) {
	d := opened(t, 1, "a")
	d.Fail(2)
	reads(t, d, 0, "a")
	refuses(t, d, 0, api.ErrDisk)
	for _, n := range []int{2, 1, 0, -1} {
		d.Fail(n)
	}
	if len(d.planned) != 0 {
		t.Errorf("%d plans are kept, want none", len(d.planned))
	}
}

func TestOperationsThatAreRefusedAreNumbered(t *testing.T) {
	d := opened(t, 1, "a")
	d.Fail(4)
	refuses(t, d, 5, api.ErrRange)
	tell(t, "Write", d.Write(5, []byte("x")), api.ErrFull)
	tell(t, "Write", d.Write(0, nil), api.ErrArg)
	tell(t, "Write", d.Write(0, []byte("x")), api.ErrDisk)
	tell(t, "Write", d.Write(0, []byte("x")), api.OK)
	counts(t, d, 5, 1)
}

func TestEveryOtherCallIsNoOperation(t *testing.T) {
	d := opened(t, 1, "ab")
	d.Fail(2)
	wrote(t, d, "x")
	d.Sectors()
	d.Size()
	d.Unsynced()
	d.Bytes()
	d.Ops()
	d.Writes()
	d.Copy()
	d.Fail(9)
	d.Crash([]api.Tear{{Kind: api.New}})
	counts(t, d, 1, 1)
	refuses(t, d, 0, api.ErrDisk)
}

// P2.3

func TestCrashLeavesWhatTearsTell(t *testing.T) {
	junk := func(text string) api.Tear { return api.Tear{Kind: api.Junk, Bytes: []byte(text)} }
	kind := func(k int) api.Tear { return api.Tear{Kind: k} }
	long := strings.Repeat("j", 10000)
	for _, x := range []struct {
		name  string
		tears []api.Tear
		want  string
	}{
		{"nil", nil, "aabbccdd"},
		{"empty", []api.Tear{}, "aabbccdd"},
		{"Old", []api.Tear{kind(api.Old), kind(api.Old), kind(api.Old)}, "aabbccdd"},
		{"New", []api.Tear{kind(api.New), kind(api.New), kind(api.New)}, "AAbbCCDD"},
		{"Junk without bytes", []api.Tear{junk(""), kind(api.Junk), kind(api.Old)}, "\x00\x00bb\x00\x00dd"},
		{"Junk of each length", []api.Tear{junk("j"), junk("kl"), junk("mno")}, "j\x00bbklmn"},
		{"long Junk", []api.Tear{junk(long), kind(api.Old), junk(long)}, "jjbbccjj"},
		{"mixed", []api.Tear{kind(api.New), junk("xy"), kind(api.Old)}, "AAbbxydd"},
		{"mixed otherwise", []api.Tear{kind(api.Old), kind(api.New), junk("x")}, "aabbCCx\x00"},
		{"too few", []api.Tear{kind(api.New)}, "AAbbccdd"},
		{"too few, Junk first", []api.Tear{junk("xy"), kind(api.New)}, "xybbCCdd"},
		{"too many", []api.Tear{kind(api.Old), kind(api.Old), kind(api.New), kind(api.New), junk("zz"), kind(9)}, "aabbccDD"},
		{"no kind, -1 and 3", []api.Tear{kind(-1), kind(3), kind(api.New)}, "aabbccDD"},
		{"no kind, far off", []api.Tear{kind(math.MinInt), kind(math.MaxInt), kind(1 << 32)}, "aabbccdd"},
		{"no kind, near New and Junk", []api.Tear{kind(1<<32 + 1), kind(258), kind(257)}, "aabbccdd"},
		{"bytes of what is no Junk", []api.Tear{{Kind: api.Old, Bytes: []byte("zz")}, {Kind: api.New, Bytes: []byte("zz")}, {Kind: 7, Bytes: []byte("zz")}}, "aabbCCdd"},
	} {
		d := opened(t, 2, "aabbccdd")
		tell(t, x.name, d.Write(3, []byte("DD")), api.OK) // tears go by sectors, not by when they were written
		tell(t, x.name, d.Write(0, []byte("AA")), api.OK)
		tell(t, x.name, d.Write(2, []byte("CC")), api.OK)
		d.Crash(x.tears)
		if got := string(d.Bytes()); got != x.want {
			t.Errorf("%s: %q lasts, want %q", x.name, got, x.want)
		}
		if u := d.Unsynced(); len(u) != 0 {
			t.Errorf("%s: cached are %v", x.name, u)
		}
		counts(t, d, 3, 3)
		for i := range 4 {
			reads(t, d, i, x.want[2*i:2*i+2])
		}
		tell(t, "Sync", d.Sync(), api.OK)
		lasts(t, d, x.want)
	}
}

func TestCrashOfOneThatIsSynced(t *testing.T) {
	d := opened(t, 1, "ab")
	tears := []api.Tear{{Kind: api.Junk, Bytes: []byte("z")}, {Kind: api.Junk}, {Kind: api.New}}
	d.Crash(tears)
	lasts(t, d, "ab")
	wrote(t, d, "x")
	tell(t, "Sync", d.Sync(), api.OK)
	d.Crash(tears)
	lasts(t, d, "xb")
	none, _ := New(0, 1)
	none.Crash(tears)
	lasts(t, none, "")
}

func TestCrashTakesTheLastOfSeveralWrites(t *testing.T) {
	d := opened(t, 1, "ab")
	wrote(t, d, "x", "y")
	wrote(t, d, "z")
	d.Crash([]api.Tear{{Kind: api.New}})
	lasts(t, d, "zb")
}

func TestCrashTellsManySectorsInOrder(t *testing.T) {
	d, _ := New(300, 1)
	for n := range 100 {
		i := n * 37 % 100 * 3 // each third sector, in no order
		tell(t, "Write", d.Write(i, []byte{1}), api.OK)
	}
	var tears []api.Tear
	want := make([]byte, 300)
	for n := range 100 {
		tears = append(tears, api.Tear{Kind: api.Junk, Bytes: []byte{byte(n + 2)}})
		want[3*n] = byte(n + 2)
	}
	d.Crash(tears)
	lasts(t, d, string(want))
}

func TestWhatWasPlannedStaysPlanned(t *testing.T) {
	d := opened(t, 1, "ab")
	d.Fail(2)
	d.Fail(4)
	wrote(t, d, "x")
	d.Crash(nil)
	refuses(t, d, 0, api.ErrDisk)
	d.Crash([]api.Tear{{Kind: api.New}})
	reads(t, d, 0, "a")
	tell(t, "Sync", d.Sync(), api.ErrDisk)
	tell(t, "Sync", d.Sync(), api.OK)
	counts(t, d, 5, 1)
}

func TestTheChaptersExample(t *testing.T) {
	d, _ := New(2, 1)
	tell(t, "Write", d.Write(1, []byte{7}), api.OK)
	d.Crash([]api.Tear{{Kind: api.New}})
	lasts(t, d, "\x00\x07")
}

// P2.4

func TestUnsyncedRises(t *testing.T) {
	d, _ := New(4096, 1)
	var want []int
	for n := range 4096 {
		if i := (n*1001 + 7) % 4096; i%3 == 0 {
			tell(t, "Write", d.Write(i, []byte{0}), api.OK) // as what lasts: cached all the same
			want = append(want, i)
		}
	}
	slices.Sort(want)
	if got := d.Unsynced(); !slices.Equal(got, want) {
		t.Errorf("not synced are %d sectors, want %d, rising", len(got), len(want))
	}
	counts(t, d, len(want), len(want))
	tell(t, "again", d.Write(want[0], []byte{1}), api.OK)
	if got := d.Unsynced(); !slices.Equal(got, want) {
		t.Error("a sector that is written twice is told twice")
	}
}

func TestBytesTellsLastingOnesAlone(t *testing.T) {
	d := opened(t, 3, "abcdef")
	wrote(t, d, "xyz")
	lasts(t, d, "abcdef", 0)
}

func TestWritesCountsThoseThatToldOK(t *testing.T) {
	d := opened(t, 1, "ab")
	d.Fail(2)
	wrote(t, d, "x")
	tell(t, "planned", d.Write(0, []byte("y")), api.ErrDisk)
	tell(t, "beyond", d.Write(2, []byte("y")), api.ErrFull)
	tell(t, "below", d.Write(-1, []byte("y")), api.ErrRange)
	tell(t, "long", d.Write(0, []byte("yy")), api.ErrArg)
	wrote(t, d, "x") // the same once more
	reads(t, d, 0, "x")
	tell(t, "Sync", d.Sync(), api.OK)
	counts(t, d, 8, 2)
	d.Crash(nil)
	counts(t, d, 8, 2)
}

func TestCopyHasAllOfIt(t *testing.T) {
	d := opened(t, 2, "aabbcc")
	wrote(t, d, "", "BB", "CC")
	refuses(t, d, 9, api.ErrRange)
	d.Fail(5)
	d.Fail(7)
	for _, c := range []*Disk{d.Copy(), d.Copy().Copy()} {
		if c == d || c.Sectors() != 3 || c.Size() != 2 {
			t.Fatalf("a copy with %d sectors of %d", c.Sectors(), c.Size())
		}
		lasts(t, c, "aabbcc", 1, 2)
		counts(t, c, 3, 2)
		reads(t, c, 2, "CC")
		refuses(t, c, 2, api.ErrDisk)
		reads(t, c, 1, "BB")
		tell(t, "Sync", c.Sync(), api.ErrDisk)
		tell(t, "Sync", c.Sync(), api.OK)
		lasts(t, c, "aaBBCC")
	}
	lasts(t, d, "aabbcc", 1, 2)
	counts(t, d, 3, 2)
}

func TestCopyGoesOnByItself(t *testing.T) {
	d := opened(t, 2, "aabb")
	wrote(t, d, "xx")
	d.Fail(3)
	c := d.Copy()

	wrote(t, c, "", "yy") // the copy goes on
	refuses(t, c, 0, api.ErrDisk)
	c.Fail(2)
	c.Fail(5)
	tell(t, "Sync", c.Sync(), api.OK)
	lasts(t, c, "xxyy")
	lasts(t, d, "aabb", 0)
	counts(t, d, 1, 1)

	reads(t, d, 1, "bb") // the first one goes on
	refuses(t, d, 0, api.ErrDisk)
	wrote(t, d, "pq")
	reads(t, d, 0, "pq")
	d.Fail(6)
	d.Crash([]api.Tear{{Kind: api.Junk, Bytes: []byte("j")}})
	lasts(t, d, "j\x00bb")
	counts(t, d, 5, 2)

	lasts(t, c, "xxyy")
	counts(t, c, 4, 2)
	refuses(t, c, 0, api.ErrDisk)
	reads(t, c, 0, "xx")
	refuses(t, d, 0, api.ErrDisk)
}

func TestPlansMadeBehindACopyAreNotShared(t *testing.T) {
	d := opened(t, 1, "a")
	c := d.Copy()
	d.Fail(1)
	reads(t, c, 0, "a")
	refuses(t, d, 0, api.ErrDisk)
	d.Fail(3) // now there is a plan to copy
	c = d.Copy()
	c.Fail(2)
	d.Fail(4)
	reads(t, d, 0, "a")
	refuses(t, c, 0, api.ErrDisk)
	refuses(t, c, 0, api.ErrDisk)
	refuses(t, d, 0, api.ErrDisk)
	reads(t, c, 0, "a")
	refuses(t, d, 0, api.ErrDisk)
}

// R5

func TestWhatIsHandedInMayBeChanged(t *testing.T) {
	b := []byte("aabbcc")
	d, _ := Open(2, b)
	copy(b, "zzzzzz")
	lasts(t, d, "aabbcc")

	b = []byte("xx")
	tell(t, "Write", d.Write(0, b), api.OK)
	copy(b, "zz")
	reads(t, d, 0, "xx")
	tell(t, "Write", d.Write(1, b), api.OK)
	tell(t, "Write", d.Write(2, b), api.OK)
	tell(t, "Sync", d.Sync(), api.OK)
	copy(b, "ww")
	lasts(t, d, "xxzzzz")

	wrote(t, d, "11", "22", "33")
	one, two := []byte("jk"), []byte("lmno")
	tears := []api.Tear{{Kind: api.Junk, Bytes: one}, {Kind: api.Junk, Bytes: two}, {Kind: api.New}}
	d.Crash(tears)
	if string(one) != "jk" || string(two) != "lmno" || tears[0].Kind != api.Junk || tears[2].Kind != api.New || len(tears[1].Bytes) != 4 {
		t.Error("Crash changed the tears")
	}
	copy(one, "zz")
	copy(two, "zzzz")
	tears[2] = api.Tear{Kind: api.Junk}
	lasts(t, d, "jklm33")
}

func TestWhatIsHandedInStaysWithinItsPiece(t *testing.T) {
	whole := []byte("ahead|xx|behind")
	d := opened(t, 2, "aabb")
	tell(t, "Write", d.Write(0, whole[6:8]), api.OK)
	tell(t, "Sync", d.Sync(), api.OK)
	c, _ := Open(2, whole[6:8])
	wrote(t, c, "yy")
	tell(t, "Sync", c.Sync(), api.OK)
	wrote(t, d, "yy")
	d.Crash([]api.Tear{{Kind: api.Junk, Bytes: whole[6:7]}})
	lasts(t, d, "x\x00bb") // what lies behind a short Junk is none of it
	if string(whole) != "ahead|xx|behind" {
		t.Errorf("changed: %q", whole)
	}
}

func TestWhatIsAnsweredMayBeChanged(t *testing.T) {
	d := opened(t, 2, "aabb")
	wrote(t, d, "", "BB")
	spoil := func(b []byte) {
		for i := range b {
			b[i] = '!'
		}
		b = append(b, "!!!!"...)
	}
	for i := range 2 {
		b, _ := d.Read(i)
		spoil(b)
	}
	spoil(d.Bytes())
	d.Unsynced()[0] = 0
	lasts(t, d, "aabb", 1)
	reads(t, d, 0, "aa")
	reads(t, d, 1, "BB")
	early, _ := d.Read(1)
	all := d.Bytes()
	tell(t, "Sync", d.Sync(), api.OK)
	if string(all) != "aabb" {
		t.Error("a Sync changed what Bytes had told")
	}
	spoil(early)
	lasts(t, d, "aaBB")
	b, _ := d.Read(1)
	wrote(t, d, "", "CC")
	d.Crash([]api.Tear{{Kind: api.Junk, Bytes: []byte("zz")}})
	if string(b) != "BB" {
		t.Error("a crash changed what Read had told")
	}
}

// One sector is all of a disk, and still no answer is the disk's own memory.
func TestWhatADiskOfOneSectorAnswersMayBeChanged(t *testing.T) {
	d := opened(t, 2, "aa")
	d.Bytes()[0] = '!'
	lasts(t, d, "aa")
	reads(t, d, 0, "aa")
	wrote(t, d, "xx")
	d.Crash([]api.Tear{{Kind: api.New}})
	d.Bytes()[1] = '!'
	lasts(t, d, "xx")
	reads(t, d, 0, "xx")
}

// R1: even a Disk that no call has made doesn't panic.
func TestADiskThatNobodyOpened(t *testing.T) {
	var d Disk
	d.Fail(1)
	refuses(t, &d, 0, api.ErrDisk)
	refuses(t, &d, 0, api.ErrRange)
	tell(t, "Write", d.Write(0, nil), api.ErrFull)
	tell(t, "Sync", d.Sync(), api.OK)
	d.Crash([]api.Tear{{Kind: api.New}})
	lasts(t, d.Copy(), "")
	counts(t, &d, 4, 0)
}
