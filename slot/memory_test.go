package slot_test

import (
	"slices"
	"testing"

	"troth/api"
	"troth/slot"
)

// spoilt is a cell that no page of these tests has.
var spoilt = cell("spoilt", "spoilt")

// spoil overwrites cells, and what their memory has beyond them.
func spoil(l []api.Cell) {
	l = l[:cap(l)]
	for i := range l {
		l[i] = spoilt
	}
}

// P0.3: Save changes no page, looks at nothing behind its cells, and keeps none of it.
func TestSaveAndItsArgument(t *testing.T) {
	for _, kept := range append(goodPages(), badPages()...) {
		all := append(slices.Clone(kept.Cells), spoilt, spoilt, spoilt, spoilt)
		p := api.Page{Lsn: kept.Lsn, Cells: all[:len(kept.Cells)]}
		d := made(t, 2)
		e := slot.Save(d, 0, 0, 6, p)
		if (e == api.OK) != may(kept) || !same(version{6, p}, version{6, kept}) {
			t.Fatalf("Save of %v is %d, and leaves %v", kept, e, p)
		}
		for _, c := range all[len(kept.Cells):] {
			if c != spoilt {
				t.Fatalf("Save of %v writes behind its cells", kept)
			}
		}
		spoil(p.Cells)
		if e == api.OK {
			wantContent(t, "the argument is changed", d, 0, written(1, version{6, kept}))
			wantLoaded(t, "the argument is changed", d, 0, 0, version{6, kept})
		}
	}
}

// P0.3: what Load returns may be written over: nothing becomes of the disk, of another result, or of a later one.
func TestLoadAndItsResult(t *testing.T) {
	for _, kept := range goodPages() {
		d, v := made(t, 4), version{7, kept}
		save(t, d, 1, 0, versionAt(6))
		save(t, d, 1, 0, v)
		first, _, _ := slot.Load(d, 1, 0)
		second, turn, _ := slot.Load(d, 1, 0)
		spoil(first.Cells)
		if !same(version{turn, second}, v) {
			t.Fatalf("a change of a result changes another one to %v", second)
		}
		wantContent(t, "a result is changed", d, 1, written(1, versionAt(6)))
		wantContent(t, "a result is changed", d, 2, written(1, v))
		wantLoaded(t, "a result is changed", d, 1, 0, v)
		save(t, d, 1, 0, versionAt(8))
		if !same(version{turn, second}, v) {
			t.Fatalf("a later Save changes a result to %v", second)
		}
	}
}

// P0.3: a page that was loaded may be saved, there and elsewhere, and both are what they were.
func TestLoadedIsSaved(t *testing.T) {
	d := made(t, 4)
	save(t, d, 0, 0, versionAt(19))
	p, turn, _ := slot.Load(d, 0, 0)
	save(t, d, 0, 0, version{turn + 1, p})
	save(t, d, 0, 1, version{turn, p})
	spoil(p.Cells)
	wantLoaded(t, "saved again", d, 0, 0, version{20, pageAt(19)})
	wantLoaded(t, "saved elsewhere", d, 0, 1, versionAt(19))
}

// P0.4: a page without cells is the same one, with a nil list and with an empty one.
func TestNoCells(t *testing.T) {
	for _, l := range [][]api.Cell{nil, {}, make([]api.Cell, 0, 9)} {
		d, v := made(t, 2), version{3, api.Page{Lsn: 4, Cells: l}}
		save(t, d, 0, 0, v)
		wantContent(t, "no cells", d, 1, stamped(1, []byte{3, 4, 0}))
		wantLoaded(t, "no cells", d, 0, 0, v)
	}
}
