package slot_test

import (
	"bytes"
	"math"
	"slices"
	"strconv"
	"strings"
	"testing"

	"troth/api"
	"troth/disk"
	"troth/slot"
)

const (
	most   = 1 << 40 // of a turn and of an Lsn
	places = 4096    // of a base and of a page's number
)

// turns are of all kinds, those that may be, at the edges and where an encoding becomes longer.
var turns = []int{1, 2, 3, 4, 126, 127, 128, 129, 16383, 16384, 1<<21 - 1, 1 << 21, 1<<35 - 1, 1 << 35, most - 2, most - 1, most}

// notTurns are what no turn may be; some would be if they were cut to fewer bits.
var notTurns = []int{-1, 0, most + 1, -2, most + 2, 2 * most, -most, 1<<48 + 1, 1<<62 + 2, math.MinInt, math.MinInt + 1, math.MaxInt - 1, math.MaxInt}

// notPlaces are what neither a base nor a page's number may be.
var notPlaces = []int{-1, places + 1, -2, places + 2, 2 * places, -places, 1 << 32, 1 << 61, 1 << 62, 1<<62 - 1, -1 << 62, -1 << 61, 1<<63 - 1 - places, math.MinInt, math.MinInt + 1, math.MaxInt - 1, math.MaxInt}

// version is a page, and its turn; that of a page that has none has the turn 0.
type version struct {
	turn int
	page api.Page
}

// versionAt is one with a turn, and a page that hangs on it: they have all numbers of cells, and keys and values of all lengths.
func versionAt(turn int) version { return version{turn, pageAt(turn)} }

// pageAt is a valid page that hangs on a number.
func pageAt(n int) api.Page {
	p := api.Page{Lsn: most - n}
	for i := range n % 5 {
		p.Cells = append(p.Cells, api.Cell{Key: string(rune('b'+i)) + strings.Repeat("k", n/5%16), Val: valueAt(n + 7*i)})
	}
	return p
}

// valueAt is a value that hangs on a number.
func valueAt(n int) api.Value {
	if n%4 == 3 {
		return api.Value{}
	}
	return api.Value{Has: true, Data: string(noise(n%33, n))}
}

// fullest is a page whose payload is as long as there may be.
func fullest() api.Page {
	p := api.Page{Lsn: most}
	for i := range 4 {
		p.Cells = append(p.Cells, api.Cell{Key: strings.Repeat("z", 15) + strconv.Itoa(i), Val: api.Value{Has: true, Data: strings.Repeat("\xff", 32)}})
	}
	return p
}

// cells is a page of these cells.
func cells(l ...api.Cell) api.Page { return api.Page{Lsn: 5, Cells: l} }

// cell is one that has data.
func cell(key, data string) api.Cell {
	return api.Cell{Key: key, Val: api.Value{Has: true, Data: data}}
}

// goodPages are valid ones, the edges among them.
func goodPages() []api.Page {
	l := []api.Page{{}, {Lsn: 1}, {Lsn: most}, {Cells: []api.Cell{}}, fullest(), cells(api.Cell{Key: "a"}),
		cells(cell("a", "")), cells(cell("\x00", "\x00")), cells(cell("a", "1"), cell("aa", "2"), cell("b", "3"), api.Cell{Key: "c"})}
	for n := range 40 {
		l = append(l, pageAt(n))
	}
	return l
}

// badPages are some that aren't valid.
func badPages() []api.Page {
	five := cells(cell("a", "1"), cell("b", "1"), cell("c", "1"), cell("d", "1"), cell("e", "1"))
	many := fullest()
	many.Cells = slices.Repeat(many.Cells, 500)
	return []api.Page{five, many, {Lsn: -1}, {Lsn: most + 1}, {Lsn: math.MinInt}, {Lsn: math.MaxInt},
		cells(cell("", "1")), cells(cell(strings.Repeat("k", 17), "1")), cells(cell("a", strings.Repeat("v", 33))),
		cells(api.Cell{Key: "a", Val: api.Value{Data: "x"}}), cells(cell("b", "1"), cell("a", "1")), cells(cell("a", "1"), cell("a", "2")),
		cells(cell("a", "1"), cell("b", "1"), cell("c", "1"), cell("c", "1")), cells(cell("a", strings.Repeat("v", 400))), cells(cell(strings.Repeat("k", 4097), "1"))}
}

// may tells whether a page is valid, as chapter 10 has it.
func may(p api.Page) bool {
	good := 0 <= p.Lsn && p.Lsn <= most && len(p.Cells) < 5
	last := ""
	for _, c := range p.Cells {
		good = good && last < c.Key && len(c.Key) < 17 && len(c.Val.Data) < 33 && (c.Val.Has || c.Val.Data == "")
		last = c.Key
	}
	return good
}

// digits is the varint of a number.
func digits(n uint64) []byte {
	b := []byte{byte(n % 128)}
	for n /= 128; n > 0; n /= 128 {
		b = append([]byte{byte(128 + n%128)}, b...)
	}
	return b
}

// textOf is the encoding of a string.
func textOf(s string) []byte { return append(digits(uint64(len(s))), s...) }

// payloadOf is a page's payload, as chapter 10 has it, also that of a page that is not valid.
func payloadOf(p api.Page) []byte {
	b := append(digits(uint64(p.Lsn)), digits(uint64(len(p.Cells)))...)
	for _, c := range p.Cells {
		b = append(b, textOf(c.Key)...)
		if c.Val.Has {
			b = append(append(b, 1), textOf(c.Val.Data)...)
		} else {
			b = append(b, 0)
		}
	}
	return b
}

// bytesOf is what is stored of a version, ahead of the noughts.
func bytesOf(v version) []byte { return append(digits(uint64(v.turn)), payloadOf(v.page)...) }

// stamped is a sector with a payload, followed by zero bytes, between two stamps.
func stamped(mark byte, payload []byte) []byte {
	return slices.Concat([]byte{mark}, payload, make([]byte, 254-len(payload)), []byte{mark})
}

// written is a sector that a version is in.
func written(mark byte, v version) []byte { return stamped(mark, bytesOf(v)) }

// noise is n bytes without a pattern, those of a seed always the same ones.
func noise(n, seed int) []byte {
	b := make([]byte, n)
	state := uint32(seed)*2654435761 + 1
	for i := range b {
		state = state*1664525 + 1013904223
		b[i] = byte(state >> 24)
	}
	return b
}

// scan reads values as the chapters 1 and 3 have it, and notes whether one can't be read.
type scan struct {
	b   []byte
	bad bool
}

// num is a number of at most so much.
func (s *scan) num(most uint64) int {
	n := uint64(0)
	for i, c := range s.b {
		if i == 0 && c == 128 || n >= 1<<56 {
			break
		}
		n = n*128 + uint64(c%128)
		if c < 128 {
			s.b = s.b[i+1:]
			s.bad = s.bad || n > most
			return int(n)
		}
	}
	s.bad = true
	return 0
}

// text is a string of at most so many bytes.
func (s *scan) text(most uint64) string {
	n := s.num(most)
	if s.bad || n > len(s.b) {
		s.bad = true
		return ""
	}
	text := string(s.b[:n])
	s.b = s.b[n:]
	return text
}

// cell is a cell of a page.
func (s *scan) cell() api.Cell {
	c := api.Cell{Key: s.text(16)}
	if has := s.num(1); has == 1 {
		c.Val = api.Value{Has: true, Data: s.text(32)}
	}
	return c
}

// versionIn is the version that the sector with a turn of this parity contains, as the chapter has it: the zero one if it contains none.
func versionIn(parity int, sector []byte) version {
	if mark := sector[0]; mark < 1 || mark > 3 || sector[255] != mark {
		return version{}
	}
	s := scan{b: sector[1:255]}
	v := version{turn: s.num(most)}
	v.page.Lsn = s.num(most)
	count := s.num(4)
	for i := 0; i < count && !s.bad; i++ {
		v.page.Cells = append(v.page.Cells, s.cell())
	}
	if s.bad || v.turn == 0 || v.turn%2 != parity || !may(v.page) {
		return version{}
	}
	return v
}

// isPlace tells whether a number may be a base, or that of a page.
func isPlace(n int) bool { return n >= 0 && n <= places }

// modelSave is Save as the chapter has it.
func modelSave(d *disk.Disk, base, n int, v version) api.Errno {
	if v.turn < 1 || v.turn > most || !may(v.page) || !isPlace(base) || !isPlace(n) {
		return api.ErrArg
	}
	at := base + 2*n
	if v.turn%2 == 1 {
		at++
	}
	old, e := d.Read(at)
	if e != api.OK {
		return e
	}
	mark := byte(1)
	for mark == old[0] || mark == old[255] {
		mark++
	}
	if e := d.Write(at, written(mark, v)); e != api.OK {
		return e
	}
	return d.Sync()
}

// modelLoad is Load as the chapter has it.
func modelLoad(d *disk.Disk, base, n int) (version, api.Errno) {
	if !isPlace(base) || !isPlace(n) {
		return version{}, api.ErrArg
	}
	even, e := d.Read(base + 2*n)
	if e != api.OK {
		return version{}, e
	}
	odd, e := d.Read(base + 2*n + 1)
	if e != api.OK {
		return version{}, e
	}
	one, two := versionIn(0, even), versionIn(1, odd)
	if one.turn > two.turn {
		return one, api.OK
	}
	return two, api.OK
}

// same tells whether two versions are alike; a nil list is an empty one.
func same(a, b version) bool {
	return a.turn == b.turn && a.page.Lsn == b.page.Lsn && slices.Equal(a.page.Cells, b.page.Cells)
}

// isZero tells whether nothing at all is in a page and its turn.
func isZero(p api.Page, turn int) bool { return turn == 0 && p.Lsn == 0 && len(p.Cells) == 0 }

// made is a disk of a number of sectors that there may be.
func made(t *testing.T, sectors int) *disk.Disk {
	t.Helper()
	d, e := disk.New(sectors)
	if e != api.OK {
		t.Fatalf("New(%d) fails with %d", sectors, e)
	}
	return d
}

// write writes a sector, as it is, and synchronizes it.
func write(t *testing.T, d *disk.Disk, n int, sector []byte) {
	t.Helper()
	if e := d.Write(n, sector); e != api.OK {
		t.Fatalf("Write(%d) of %d bytes fails with %d", n, len(sector), e)
	}
	if e := d.Sync(); e != api.OK {
		t.Fatalf("Sync fails with %d", e)
	}
}

// holding is a disk of four sectors, the middle ones of which, those of page 0 with base 1, have these contents.
func holding(t *testing.T, even, odd []byte) *disk.Disk {
	t.Helper()
	d := made(t, 4)
	write(t, d, 1, even)
	write(t, d, 2, odd)
	return d
}

// fallen is a disk that is down, of so many sectors.
func fallen(t *testing.T, sectors int) *disk.Disk {
	t.Helper()
	d := made(t, sectors)
	d.Fuse(0)
	if e := d.Sync(); e != api.ErrDown {
		t.Fatalf("Sync with a fuse of 0 is %d; want ErrDown", e)
	}
	return d
}

// image is the contents of all sectors of a disk, pending writes included, also of one that is down.
func image(t *testing.T, d *disk.Disk) [][]byte {
	t.Helper()
	c := api.Crash{}
	for i := range d.Pending() {
		c.Keep = append(c.Keep, i)
	}
	left := d.Crash(c)
	var l [][]byte
	for n := range left.Sectors() {
		b, e := left.Read(n)
		if e != api.OK {
			t.Fatalf("Read(%d) fails with %d", n, e)
		}
		l = append(l, b)
	}
	return l
}

// alike tells whether two images are the same.
func alike(one, two [][]byte) bool { return slices.EqualFunc(one, two, bytes.Equal) }

// save saves a version, which should succeed.
func save(t *testing.T, d *disk.Disk, base, n int, v version) {
	t.Helper()
	if e := slot.Save(d, base, n, v.turn, v.page); e != api.OK {
		t.Fatalf("Save(%d, %d, %d) of %v fails with %d", base, n, v.turn, v.page, e)
	}
}

// wantNotSaved fails if Save is another error, or changes the disk.
func wantNotSaved(t *testing.T, what string, d *disk.Disk, base, n int, v version, want api.Errno) {
	t.Helper()
	pending, syncs, down := d.Pending(), d.Syncs(), d.Down()
	if e := slot.Save(d, base, n, v.turn, v.page); e != want {
		t.Errorf("%s: Save(%d, %d, %d) of %v is %d; want %d", what, base, n, v.turn, v.page, e, want)
	}
	if d.Pending() != pending || d.Syncs() != syncs || d.Down() != down {
		t.Errorf("%s: Save(%d, %d, %d) leaves %d writes pending, %d synchronizations and Down %t; want %d, %d, %t", what, base, n, v.turn, d.Pending(), d.Syncs(), d.Down(), pending, syncs, down)
	}
}

// wantLoaded fails if Load is not this version and OK.
func wantLoaded(t *testing.T, what string, d *disk.Disk, base, n int, want version) {
	t.Helper()
	p, turn, e := slot.Load(d, base, n)
	if e != api.OK || !same(version{turn, p}, want) {
		t.Errorf("%s: Load(%d, %d) is %v, %d, %d; want %v, %d, OK", what, base, n, p, turn, e, want.page, want.turn)
	}
}

// wantNotLoaded fails if Load is not an error, with nothing beside it.
func wantNotLoaded(t *testing.T, what string, d *disk.Disk, base, n int, want api.Errno) {
	t.Helper()
	p, turn, e := slot.Load(d, base, n)
	if e != want || !isZero(p, turn) {
		t.Errorf("%s: Load(%d, %d) is %v, %d, %d; want the zero page, 0, %d", what, base, n, p, turn, e, want)
	}
}

// wantContent fails if a sector has another content.
func wantContent(t *testing.T, what string, d *disk.Disk, n int, want []byte) {
	t.Helper()
	if b, e := d.Read(n); e != api.OK || !bytes.Equal(b, want) {
		t.Errorf("%s: sector %d has %v, %d; want %v", what, n, b, e, want)
	}
}
