package slot_test

import (
	"slices"
	"testing"

	"troth/api"
	"troth/disk"
	"troth/slot"
)

// outcome is what a call answers, and what it is seen to leave.
type outcome struct {
	e              api.Errno
	v              version
	pending, syncs int
	down           bool
}

// same tells whether two outcomes are alike.
func (o outcome) same(p outcome) bool {
	return o.e == p.e && same(o.v, p.v) && o.pending == p.pending && o.syncs == p.syncs && o.down == p.down
}

// face is the functions of a package that keeps pages: this one's, or the model's.
type face struct {
	save func(d *disk.Disk, base, n int, v version) api.Errno
	load func(d *disk.Disk, base, n int) (version, api.Errno)
}

var (
	built = face{
		func(d *disk.Disk, base, n int, v version) api.Errno { return slot.Save(d, base, n, v.turn, v.page) },
		func(d *disk.Disk, base, n int) (version, api.Errno) {
			p, turn, e := slot.Load(d, base, n)
			return version{turn, p}, e
		},
	}
	model = face{modelSave, modelLoad}
)

// place is a base and a page's number, most often of a sector that a small disk has.
func (d *draw) place() (int, int) {
	if d.below(12) == 0 {
		all := append([]int{0, 1, places - 1, places}, notPlaces...)
		return pick(d, all), pick(d, all)
	}
	return d.below(4), d.below(4)
}

// version is one that may be saved, or one that may not.
func (d *draw) version() version {
	v := version{1 + d.below(12), pick(d, goodPages())}
	switch d.below(12) {
	case 0:
		v.turn = pick(d, slices.Concat(turns, notTurns))
	case 1:
		v.page = pick(d, badPages())
	}
	return v
}

// act is a call of any kind with any arguments, and its outcome.
func (f face) act(r *draw, d *disk.Disk) (*disk.Disk, outcome) {
	var o outcome
	base, n := r.place()
	switch r.below(9) {
	case 0, 1, 2:
		o.e = f.save(d, base, n, r.version())
	case 3, 4, 5:
		o.v, o.e = f.load(d, base, n)
	case 6:
		d.Fuse(r.below(25) - 3)
	case 7:
		o.e = d.Write(r.below(8), r.sector(r.below(2)))
	default:
		if d.Down() || r.below(4) == 0 {
			d = d.Crash(r.crash())
		}
	}
	o.pending, o.syncs, o.down = d.Pending(), d.Syncs(), d.Down()
	return d, o
}

// wantAlike fails if a row of calls has other outcomes with one face than with another one, or leaves other sectors.
func wantAlike(t *testing.T, sectors int, one, two face) {
	t.Helper()
	c, d := made(t, sectors), made(t, sectors)
	var r, s draw
	loaded := 0
	for i := range 20000 {
		var a, b outcome
		c, a = one.act(&r, c)
		d, b = two.act(&s, d)
		if !a.same(b) {
			t.Fatalf("with %d sectors, call %d has the outcomes %v and %v", sectors, i, a, b)
		}
		if a.e != api.OK && !same(a.v, version{}) {
			t.Fatalf("with %d sectors, call %d fails with %d, and %v beside it", sectors, i, a.e, a.v)
		}
		if i%20 == 0 && !alike(image(t, c), image(t, d)) {
			t.Fatalf("with %d sectors, the disks differ behind call %d", sectors, i)
		}
		if a.v.turn > 0 {
			loaded++
		}
	}
	if sectors > 4 && loaded < 300 {
		t.Errorf("with %d sectors, only %d calls load a version", sectors, loaded)
	}
}

// P11.1 and P0.1: whatever is passed, nothing panics, and all calls do what the chapter has.
func TestCallsOfTheModel(t *testing.T) {
	t.Parallel()
	for _, sectors := range []int{1, 2, 3, 5, 8, 14} {
		wantAlike(t, sectors, built, model)
	}
}

// P0.5: the same calls have the same outcomes.
func TestSameCallsSameResults(t *testing.T) {
	t.Parallel()
	for _, sectors := range []int{1, 2, 3, 8} {
		wantAlike(t, sectors, built, built)
	}
}

// P0.1 and P11.1: a nil disk, whatever is passed beside it.
func TestNilDisk(t *testing.T) {
	for _, turn := range slices.Concat(turns, notTurns) {
		for _, p := range append(badPages(), goodPages()...) {
			v := version{turn, p}
			wantNotSaved(t, "a nil disk", nil, 0, 0, v, modelSave(nil, 0, 0, v))
		}
	}
	wantNotLoaded(t, "a nil disk", nil, 0, 0, api.ErrNil)
}
