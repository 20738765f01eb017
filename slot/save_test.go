package slot_test

import (
	"slices"
	"testing"

	"troth/api"
	"troth/slot"
)

// P11.1: the chapter's example.
func TestExample(t *testing.T) {
	d := made(t, 20)
	v := version{1, cells(cell("a", "x"))}
	save(t, d, 10, 3, v)
	for n := range 20 {
		want := make([]byte, 256)
		if n == 17 {
			want = written(1, v)
		}
		wantContent(t, "page 3 with base 10 and turn 1", d, n, want)
	}
	wantLoaded(t, "page 3 with base 10 and turn 1", d, 10, 3, v)
}

// P11.1: the bytes of both sectors behind Save, where they can be told at a glance.
func TestBytesOfSave(t *testing.T) {
	d := made(t, 4)
	save(t, d, 1, 0, version{1, cells(cell("a", "x"))})
	odd := append([]byte{1, 1, 5, 1, 1, 'a', 1, 1, 'x', 0}, make([]byte, 246)...)
	odd[255] = 1
	wantContent(t, "turn 1", d, 1, make([]byte, 256))
	wantContent(t, "turn 1", d, 2, odd)

	save(t, d, 1, 0, version{300, cells(cell("a", ""), api.Cell{Key: "bc"})})
	even := append([]byte{1, 0x82, 0x2C, 5, 2, 1, 'a', 1, 0, 2, 'b', 'c', 0}, make([]byte, 243)...)
	even[255] = 1
	wantContent(t, "turn 300", d, 1, even)
	wantContent(t, "turn 300", d, 2, odd)

	save(t, d, 1, 0, version{301, api.Page{}})
	third := make([]byte, 256)
	third[0], third[1], third[2], third[255] = 2, 0x82, 0x2D, 2
	wantContent(t, "turn 301", d, 1, even)
	wantContent(t, "turn 301", d, 2, third)
	wantContent(t, "three saved", d, 0, make([]byte, 256))
	wantContent(t, "three saved", d, 3, make([]byte, 256))
}

// P11.1: Save writes the turn's sector with the next stamp, and no other one, whatever they had, and synchronizes.
func TestSave(t *testing.T) {
	for _, turn := range turns {
		for _, ends := range [][3]byte{{0, 0, 1}, {1, 1, 2}, {2, 2, 1}, {3, 3, 1}, {1, 2, 3}, {2, 1, 3}, {1, 3, 2}, {9, 1, 2}, {255, 255, 1}} {
			old := noise(256, turn)
			old[0], old[1], old[255] = ends[0], 0, ends[1] // no version, whether or not it is intact
			d, v := holding(t, old, old), versionAt(turn)
			before, syncs := image(t, d), d.Syncs()
			save(t, d, 1, 0, v)
			if d.Pending() != 0 || d.Syncs() != syncs+1 {
				t.Fatalf("Save leaves %d writes pending and %d synchronizations; want 0, %d", d.Pending(), d.Syncs(), syncs+1)
			}
			before[1+turn%2] = written(ends[2], v)
			if !alike(image(t, d), before) {
				t.Fatalf("Save of turn %d over a sector that ends in %v leaves other contents", turn, ends)
			}
			wantLoaded(t, "one saved", d, 1, 0, v)
			wantLoaded(t, "one saved, behind a crash", d.Crash(api.Crash{}), 1, 0, v)
		}
	}
}

// P11.1: pages of all kinds, with turns of all kinds; the longest of both fit.
func TestPages(t *testing.T) {
	for _, turn := range turns {
		for _, p := range goodPages() {
			d, v := made(t, 2), version{turn, p}
			save(t, d, 0, 0, v)
			wantContent(t, "a page saved", d, turn%2, written(1, v))
			wantContent(t, "a page saved", d, 1-turn%2, make([]byte, 256))
			wantLoaded(t, "a page saved", d, 0, 0, v)
		}
	}
	if n := len(bytesOf(version{most, fullest()})); n != 217 {
		t.Errorf("the longest version has %d bytes; want 217", n)
	}
}

// P11.1: turns that may not be, whatever else there is.
func TestTurns(t *testing.T) {
	for _, turn := range notTurns {
		for _, p := range slices.Concat(goodPages()[:8], badPages()) {
			v := version{turn, p}
			d := made(t, 2)
			d.Fuse(0)
			wantNotSaved(t, "a turn that may not be", d, 0, 0, v, api.ErrArg)
			wantNotSaved(t, "a turn that may not be, beyond the disk", d, 5, 5, v, api.ErrArg)
			wantNotSaved(t, "a turn that may not be, a nil disk", nil, 0, 0, v, api.ErrArg)
			wantNotSaved(t, "a turn that may not be, a disk that is down", fallen(t, 2), 0, 0, v, api.ErrArg)
		}
	}
	for _, turn := range []int{1, 2, most - 1, most} {
		d := made(t, 2)
		save(t, d, 0, 0, version{turn, pageAt(3)})
		wantLoaded(t, "a turn at an edge", d, 0, 0, version{turn, pageAt(3)})
	}
}

// P11.1: pages that aren't valid, whatever else there is; nothing is written of them.
func TestPagesThatMayNotBe(t *testing.T) {
	for _, p := range badPages() {
		for _, turn := range turns {
			v := version{turn, p}
			d := holding(t, written(1, versionAt(6)), written(2, versionAt(7)))
			before := image(t, d)
			d.Fuse(0)
			wantNotSaved(t, "a page that is not valid", d, 1, 0, v, api.ErrArg)
			wantNotSaved(t, "a page that is not valid, beyond the disk", d, 9, 9, v, api.ErrArg)
			wantNotSaved(t, "a page that is not valid, a nil disk", nil, 0, 0, v, api.ErrArg)
			wantNotSaved(t, "a page that is not valid, a disk that is down", fallen(t, 2), 0, 0, v, api.ErrArg)
			if !alike(image(t, d), before) {
				t.Fatalf("Save of %v writes something", p)
			}
			wantLoaded(t, "a page that is not valid", d, 1, 0, versionAt(7))
		}
	}
}

// P11.1: bases and page numbers that may not be are refused ahead of what the disk says, also where their sum would be a sector.
func TestPlacesThatMayNotBe(t *testing.T) {
	good := []int{0, 1, 2, places - 1, places}
	for _, bad := range notPlaces {
		for _, other := range slices.Concat(good, notPlaces) {
			for _, at := range [][2]int{{bad, other}, {other, bad}} {
				for _, turn := range []int{1, 2, most, 0} {
					v := version{turn, pageAt(2)}
					d := made(t, places)
					wantNotSaved(t, "no place", d, at[0], at[1], v, api.ErrArg)
					wantNotSaved(t, "no place, a nil disk", nil, at[0], at[1], v, api.ErrArg)
					wantNotSaved(t, "no place, a disk that is down", fallen(t, places), at[0], at[1], v, api.ErrArg)
				}
				wantNotLoaded(t, "no place", made(t, places), at[0], at[1], api.ErrArg)
				wantNotLoaded(t, "no place, a nil disk", nil, at[0], at[1], api.ErrArg)
				wantNotLoaded(t, "no place, a disk that is down", fallen(t, places), at[0], at[1], api.ErrArg)
			}
		}
	}
	for _, at := range [][2]int{{-2, 1}, {-1, 1}, {4, -1}, {2, -1}, {places + 1, -1}, {-2 * places, places}} {
		d := made(t, 8)
		wantNotSaved(t, "a sum that is a sector", d, at[0], at[1], versionAt(2), api.ErrArg)
		wantNotLoaded(t, "a sum that is a sector", d, at[0], at[1], api.ErrArg)
	}
}

// P11.1: with a place that may be, a nil disk is ErrNil, a sector beyond the disk is ErrArg, and a disk that is down is ErrDown, in this order.
func TestDisksThatFail(t *testing.T) {
	for _, base := range []int{0, 1, 2, 5, places - 1, places} {
		for _, n := range []int{0, 1, 2, 5, places - 1, places} {
			for _, sectors := range []int{1, 2, 3, 4, 7, 8, places - 1, places} {
				for turn := 1; turn < 3; turn++ {
					at := base + 2*n + turn%2
					d, v := made(t, sectors), versionAt(turn)
					wantNotSaved(t, "a nil disk", nil, base, n, v, api.ErrNil)
					if at >= sectors {
						wantNotSaved(t, "beyond the disk", d, base, n, v, api.ErrArg)
						wantNotSaved(t, "beyond a disk that is down", fallen(t, sectors), base, n, v, api.ErrArg)
						continue
					}
					save(t, d, base, n, v)
					wantContent(t, "within the disk", d, at, written(1, v))
					wantNotSaved(t, "a disk that is down", fallen(t, sectors), base, n, v, api.ErrDown)
				}
				wantNotLoaded(t, "a nil disk", nil, base, n, api.ErrNil)
				d, down := made(t, sectors), fallen(t, sectors)
				switch even := base + 2*n; {
				case even >= sectors:
					wantNotLoaded(t, "both sectors beyond the disk", d, base, n, api.ErrArg)
					wantNotLoaded(t, "both sectors beyond a disk that is down", down, base, n, api.ErrArg)
				case even == sectors-1:
					wantNotLoaded(t, "one sector beyond the disk", d, base, n, api.ErrArg)
					wantNotLoaded(t, "one sector beyond a disk that is down", down, base, n, api.ErrDown)
				default:
					wantLoaded(t, "an empty page", d, base, n, version{})
					wantNotLoaded(t, "a disk that is down", down, base, n, api.ErrDown)
				}
			}
		}
	}
}

// P11.1: of a page whose odd sector lies beyond the disk, even turns are saved, but nothing is loaded, not even beside the error.
func TestHalfBeyondTheDisk(t *testing.T) {
	d := made(t, 3)
	save(t, d, 0, 1, versionAt(2))
	wantContent(t, "an even turn", d, 2, written(1, versionAt(2)))
	wantNotSaved(t, "an odd turn", d, 0, 1, versionAt(3), api.ErrArg)
	wantNotLoaded(t, "an even turn", d, 0, 1, api.ErrArg)
}

// P11.1: the greatest base and page number that there may be at all have no sector on any disk, others next to them do.
func TestLastSectors(t *testing.T) {
	d := made(t, places)
	for _, c := range [][3]int{{places - 2, 0, 4094}, {0, 2047, 4094}, {4, 2045, 4094}, {1, 2046, 4093}} {
		for turn := 1; turn < 4; turn++ {
			save(t, d, c[0], c[1], versionAt(turn))
			wantLoaded(t, "one of the last sectors", d, c[0], c[1], versionAt(turn))
		}
		wantContent(t, "one of the last sectors", d, c[2], written(1, versionAt(2)))
		wantContent(t, "one of the last sectors", d, c[2]+1, written(2, versionAt(3)))
		d = made(t, places)
	}
	for _, c := range [][2]int{{places, 0}, {0, 2048}, {places, places}, {0, places}} {
		wantNotSaved(t, "beyond the greatest disk", d, c[0], c[1], versionAt(2), api.ErrArg)
		wantNotLoaded(t, "beyond the greatest disk", d, c[0], c[1], api.ErrArg)
	}
	wantNotSaved(t, "the odd one is beyond", d, places-1, 0, versionAt(1), api.ErrArg)
	save(t, d, places-1, 0, versionAt(2))
	wantContent(t, "the last one", d, places-1, written(1, versionAt(2)))
}

// P11.1: Save goes by what is pending, and synchronizes all of it.
func TestSaveSynchronizesAll(t *testing.T) {
	d := made(t, 5)
	for n := range 4 {
		if e := d.Write(n, stamped(byte(n%3+1), noise(9, n))); e != api.OK {
			t.Fatalf("Write fails with %d", e)
		}
	}
	save(t, d, 1, 0, versionAt(4))
	if d.Pending() != 0 || d.Syncs() != 1 {
		t.Errorf("Save leaves %d writes pending and %d synchronizations; want 0, 1", d.Pending(), d.Syncs())
	}
	after := d.Crash(api.Crash{})
	wantContent(t, "pending ahead of Save", after, 0, stamped(1, noise(9, 0)))
	wantContent(t, "written over by Save", after, 1, written(1, versionAt(4)))
	wantContent(t, "pending ahead of Save", after, 2, stamped(3, noise(9, 2)))
	wantContent(t, "pending ahead of Save", after, 3, stamped(1, noise(9, 3)))
}

// P11.1: a version that is there already is written again, with another stamp; one with a smaller turn is written over a greater one.
func TestSaveAgain(t *testing.T) {
	d := made(t, 2)
	for i := range 10 {
		save(t, d, 0, 0, versionAt(9))
		wantContent(t, "saved again", d, 1, written([]byte{1, 2}[i%2], versionAt(9)))
	}
	if d.Syncs() != 10 {
		t.Errorf("ten saves synchronize %d times", d.Syncs())
	}
	save(t, d, 0, 0, version{9, pageAt(14)})
	wantLoaded(t, "another page with the same turn", d, 0, 0, version{9, pageAt(14)})
	save(t, d, 0, 0, versionAt(3))
	wantContent(t, "a smaller turn", d, 1, written(2, versionAt(3)))
	wantLoaded(t, "a smaller turn", d, 0, 0, versionAt(3))
	save(t, d, 0, 0, versionAt(2))
	wantLoaded(t, "a smaller turn in the other sector", d, 0, 0, versionAt(3))
}

// P11.1: the power fails at Save's write or at its synchronization: both are ErrDown, and Load takes no step of the fuse.
func TestStepsOfSave(t *testing.T) {
	for fuse := range 9 {
		d := made(t, 2)
		d.Fuse(fuse)
		turn := 1
		for ; 2*turn <= fuse; turn++ {
			save(t, d, 0, 0, versionAt(turn))
			wantLoaded(t, "one saved", d, 0, 0, versionAt(turn))
		}
		if d.Down() || d.Syncs() != turn-1 {
			t.Fatalf("behind %d saves with a fuse of %d, Down is %t, and Syncs %d", turn-1, fuse, d.Down(), d.Syncs())
		}
		if e := slot.Save(d, 0, 0, turn, pageAt(turn)); e != api.ErrDown || !d.Down() || d.Pending() != fuse%2 {
			t.Fatalf("Save with a fuse of %d is %d, with Down %t and %d writes pending", fuse%2, e, d.Down(), d.Pending())
		}
		wantNotSaved(t, "a disk that went down", d, 0, 0, versionAt(turn+1), api.ErrDown)
		wantNotLoaded(t, "a disk that went down", d, 0, 0, api.ErrDown)
	}
}
