package slot_test

import (
	"bytes"
	"math"
	"slices"
	"testing"

	"troth/api"
	"troth/disk"
	"troth/slot"
)

// P11.1: versions in both sectors, in one, in none, and in the wrong one.
func TestLoad(t *testing.T) {
	zeros := make([]byte, 256)
	at := func(turn int) []byte { return written(2, versionAt(turn)) }
	for _, c := range []struct {
		even, odd []byte
		want      int // the version's turn; 0: there is none
	}{
		{zeros, zeros, 0},
		{at(2), zeros, 2},
		{zeros, at(1), 1},
		{at(2), at(1), 2},
		{at(2), at(3), 3},
		{at(100), at(3), 100},
		{at(100), at(most - 1), most - 1},
		{at(most), at(most - 1), most},
		{at(most), at(1), most},
		{at(2), at(most - 1), most - 1},
		{at(1), zeros, 0},
		{zeros, at(2), 0},
		{at(1), at(2), 0},
		{at(most - 1), at(most), 0},
		{at(5), at(3), 3},
		{at(4), at(6), 4},
		{at(3), at(3), 3},
		{at(4), at(4), 4},
		{at(most), at(most), most},
	} {
		want := version{}
		if c.want > 0 {
			want = versionAt(c.want)
		}
		d := holding(t, c.even, c.odd)
		before, syncs := image(t, d), d.Syncs()
		for range 2 {
			wantLoaded(t, "two sectors", d, 1, 0, want)
		}
		if !alike(image(t, d), before) || d.Pending() != 0 || d.Syncs() != syncs {
			t.Errorf("Load writes something")
		}
	}
}

// P11.1: a new disk has the empty page with the turn 0 everywhere.
func TestNewDisk(t *testing.T) {
	d := made(t, places)
	for _, c := range [][2]int{{0, 0}, {1, 0}, {0, 2047}, {places - 2, 0}, {2048, 1023}, {17, 400}} {
		wantLoaded(t, "a new disk", d, c[0], c[1], version{})
	}
}

// P11.1: an empty page that was saved is not the same as none: it has a turn, and its Lsn.
func TestEmptyPages(t *testing.T) {
	d := made(t, 2)
	save(t, d, 0, 0, version{1, pageAt(4)})
	save(t, d, 0, 0, version{2, api.Page{}})
	wantLoaded(t, "an empty page behind one with cells", d, 0, 0, version{2, api.Page{}})
	save(t, d, 0, 0, version{3, api.Page{Lsn: most}})
	wantLoaded(t, "a page that has an Lsn alone", d, 0, 0, version{3, api.Page{Lsn: most}})
	save(t, d, 0, 0, version{4, cells(api.Cell{Key: "a"})})
	wantLoaded(t, "a page of a key without a value", d, 0, 0, version{4, cells(api.Cell{Key: "a"})})
}

// P11.1: turns of all kinds, in both sectors, in either order: the greater one counts.
func TestGreaterTurn(t *testing.T) {
	for _, one := range turns {
		for _, two := range turns {
			d := made(t, 2)
			save(t, d, 0, 0, versionAt(one))
			save(t, d, 0, 0, versionAt(two))
			want := two
			if one%2 != two%2 {
				want = max(one, two)
			}
			wantLoaded(t, "two saved", d, 0, 0, versionAt(want))
		}
	}
}

// wantOne fails if a sector, in the place of the even or the odd one, is not this version, without another version beside it, with a smaller turn and with a greater one.
func wantOne(t *testing.T, what string, parity int, sector []byte, want version) {
	t.Helper()
	if in := versionIn(parity, sector); !same(in, want) {
		t.Fatalf("%s: the test thinks of two versions, %v and %v", what, in, want)
	}
	for _, beside := range []int{0, 3, most - 3} {
		other, then := make([]byte, 256), want
		if beside > 0 {
			turn := beside - parity
			other = written(2, versionAt(turn))
			if turn > want.turn {
				then = versionAt(turn)
			}
		}
		pair := [2][]byte{other, other}
		pair[parity] = sector
		wantLoaded(t, what, holding(t, pair[0], pair[1]), 1, 0, then)
	}
}

// P11.1: a turn must be from 1 to MaxSeq, belong into the sector, and be written as a number is.
func TestTurnsOfSectors(t *testing.T) {
	content := payloadOf(pageAt(8))
	for parity := range 2 {
		for _, turn := range turns {
			v := version{turn, pageAt(8)}
			if turn%2 != parity {
				v = version{}
			}
			wantOne(t, "a turn", parity, stamped(3, append(digits(uint64(turn)), content...)), v)
		}
		for _, n := range []uint64{0, most + 1, most + 2, 2 * most, 2*most + 1, 1<<62 + 5, 1 << 63, 1<<63 + 1, math.MaxUint64 - 1, math.MaxUint64} {
			wantOne(t, "a turn that may not be", parity, stamped(3, append(digits(n), content...)), version{})
		}
		for _, turn := range [][]byte{{128}, {128, 2}, {128, 3}, {0x82, 128, 128, 128, 128, 128, 128, 128, 128, byte(parity)}, bytes.Repeat([]byte{0x81}, 30)} {
			wantOne(t, "no number", parity, stamped(3, append(turn, content...)), version{})
		}
	}
}

// P11.1: a page must follow the turn, and be valid.
func TestPagesOfSectors(t *testing.T) {
	for parity := range 2 {
		turn := 4 + parity
		for _, p := range goodPages() {
			v := version{turn, p}
			wantOne(t, "a page", parity, written(1, v), v)
		}
		for _, p := range badPages() {
			// Some do not fit, and of others the bytes are those of a valid page, or of none.
			hidden := slices.ContainsFunc(p.Cells, func(c api.Cell) bool { return !c.Val.Has && c.Val.Data != "" })
			if hidden || p.Lsn < 0 || len(payloadOf(p)) > 250 {
				continue
			}
			wantOne(t, "a page that is not valid", parity, written(1, version{turn, p}), version{})
		}
		for _, content := range [][]byte{{5, 5}, {128, 0}, {5, 128}, {5, 1, 1, 'a', 2}, {5, 1, 1, 'a', 255, 1, 'x'}, {5, 1, 0, 1, 1, 'x'}, {5, 1, 17},
			{5, 1, 1, 'a', 1, 33}, {5, 1, 1, 'a', 1, 0x81, 0}, {5, 0x81, 0}, {5, 1, 128, 1, 'a', 0}, {0xA0, 128, 128, 128, 128, 1, 0}, bytes.Repeat([]byte{255}, 253)} {
			wantOne(t, "no page", parity, stamped(2, append([]byte{byte(turn)}, content...)), version{})
		}
		for _, content := range [][]byte{{0}, {5, 0, 255, 255}, {0xA0, 128, 128, 128, 128, 0, 0}} {
			v := version{turn: turn}
			v.page.Lsn = map[int]int{1: 0, 4: 5, 7: most}[len(content)]
			wantOne(t, "a page without cells", parity, stamped(2, append([]byte{byte(turn)}, content...)), v)
		}
	}
}

// P11.1: a payload that is cut at each byte, with noughts behind it, or others, or the beginning of another version.
func TestCutPayloads(t *testing.T) {
	for _, p := range append(goodPages(), fullest()) {
		for parity := range 2 {
			for _, turn := range []int{4 + parity, 300 + parity, most - 2 + parity} {
				whole := bytesOf(version{turn, p})
				for n := range whole {
					for _, tail := range [][]byte{nil, {255}, {1}, {128}, bytes.Repeat([]byte{255}, 254-n), noise(254-n, n), bytesOf(versionAt(7 - parity))} {
						sector := stamped(2, append(slices.Clone(whole[:n]), tail[:min(len(tail), 254-n)]...))
						want := versionIn(parity, sector)
						wantLoaded(t, "cut", holding(t, [][]byte{sector, make([]byte, 256)}[parity], [][]byte{make([]byte, 256), sector}[parity]), 1, 0, want)
						if t.Failed() {
							t.Fatalf("%v cut at byte %d", whole, n)
						}
					}
				}
			}
		}
	}
}

// P11.1: a payload that is cut where nothing of a version can be read any more.
func TestCutIsNoVersion(t *testing.T) {
	v := version{6, cells(cell("a", "xyz"), cell("b", "uvw"))}
	whole := bytesOf(v)
	for n := range whole {
		sector := stamped(2, append(slices.Clone(whole[:n]), bytes.Repeat([]byte{255}, 254-n)...))
		want := version{}
		if n >= len(whole)-3 { // only the data differs
			want = version{6, cells(cell("a", "xyz"), cell("b", "uvw"[:n-len(whole)+3]+"\xff\xff\xff"[:len(whole)-n]))}
		}
		wantOne(t, "cut", 0, sector, want)
	}
}

// P11.1: the bytes behind a page are ignored, whatever they are, and up to the end of the payload.
func TestBytesBehindThePage(t *testing.T) {
	for _, p := range []api.Page{{}, pageAt(3), pageAt(4), pageAt(19), fullest()} {
		for parity := range 2 {
			v := version{most - 4 + parity, p}
			whole := bytesOf(v)
			for c := range 256 {
				tail := bytes.Repeat([]byte{byte(c)}, 254-len(whole))
				wantLoaded(t, "equal bytes behind it", inPlace(t, parity, append(slices.Clone(whole), tail...)), 1, 0, v)
				tail = noise(254-len(whole), c)
				wantLoaded(t, "noise behind it", inPlace(t, parity, append(slices.Clone(whole), tail...)), 1, 0, v)
			}
		}
	}
}

// inPlace is a disk one sector of which, the even or the odd one of page 0 with base 1, is stamped and has a payload.
func inPlace(t *testing.T, parity int, payload []byte) *disk.Disk {
	t.Helper()
	pair := [2][]byte{make([]byte, 256), make([]byte, 256)}
	pair[parity] = stamped(2, payload)
	return holding(t, pair[0], pair[1])
}

// P11.1: a sector with each first and last byte; only an intact one contains a version.
func TestAllEnds(t *testing.T) {
	for parity := range 2 {
		older, newer := versionAt(7-parity), versionAt(8+parity)
		d := holding(t, written(1, older), written(1, older))
		for first := range 256 {
			for last := range 256 {
				content := written(1, newer)
				content[0], content[255] = byte(first), byte(last)
				write(t, d, 1+parity, content)
				want := older
				if first == last && 1 <= first && first <= 3 {
					want = newer
				}
				wantLoaded(t, "a sector with other ends", d, 1, 0, want)
			}
		}
	}
}

// P11.1: Load goes by the contents of the sectors, pending writes included.
func TestPendingWrites(t *testing.T) {
	d := holding(t, written(1, versionAt(2)), make([]byte, 256))
	pend := func(n int, sector []byte) {
		if e := d.Write(n, sector); e != api.OK {
			t.Fatalf("Write fails with %d", e)
		}
	}
	pend(1, written(2, versionAt(8)))
	pend(2, written(3, versionAt(5)))
	wantLoaded(t, "pending versions", d, 1, 0, versionAt(8))
	pend(1, make([]byte, 256))
	wantLoaded(t, "a version that is written over", d, 1, 0, versionAt(5))
	wantLoaded(t, "a crash", d.Crash(api.Crash{}), 1, 0, versionAt(2))
	pend(2, stamped(1, nil))
	save(t, d, 1, 0, versionAt(9))
	wantContent(t, "saved over a pending write", d, 2, written(2, versionAt(9)))
}

// P11.1: sectors of any bytes, as they are and with a version's beginning, are read as the chapter has it.
func TestAnySectors(t *testing.T) {
	t.Parallel()
	var r draw
	found := 0
	for range 20000 {
		var pair [2][]byte
		for i := range pair {
			pair[i] = r.sector(i)
		}
		d := holding(t, pair[0], pair[1])
		want, _ := modelLoad(d, 1, 0)
		wantLoaded(t, "any sectors", d, 1, 0, want)
		if want.turn > 0 {
			found++
		}
		if t.Failed() {
			t.Fatalf("with %v and %v", pair[0], pair[1])
		}
	}
	if found < 2000 || found > 18000 {
		t.Errorf("%d of 20000 pairs have a version", found)
	}
}

// P11.1: a page is found at its place alone: with another base or number there is another one.
func TestOtherPlaces(t *testing.T) {
	d := made(t, 12)
	v := versionAt(8)
	save(t, d, 3, 2, v)
	for base := range 12 {
		for n := range 6 {
			switch at := base + 2*n; {
			case at+1 >= 12:
				wantNotLoaded(t, "beyond the disk", d, base, n, api.ErrArg)
			case at == 7:
				wantLoaded(t, "the same sectors", d, base, n, v)
			default:
				wantLoaded(t, "other sectors", d, base, n, version{})
			}
		}
	}
	p, turn, e := slot.Load(d, 3, 2)
	if e != api.OK || !same(version{turn, p}, v) {
		t.Errorf("Load is %v, %d, %d", p, turn, e)
	}
}
