package slot_test

import (
	"math"
	"slices"
	"testing"

	"troth/api"
	"troth/disk"
	"troth/slot"
)

// cuts are of all kinds, and around both ends of a sector.
var cuts = []int{math.MinInt, -1, 0, 1, 2, 7, 31, 128, 254, 255, 256, 257, math.MaxInt}

// allCuts are at each byte of a sector, and beyond both ends.
func allCuts() []int {
	l := []int{math.MinInt, math.MaxInt}
	for cut := -1; cut <= api.SectorBytes+1; cut++ {
		l = append(l, cut)
	}
	return l
}

// lastOf is the version with a turn, and that of a page that has none for 0.
func lastOf(turn int) version {
	if turn == 0 {
		return version{}
	}
	return versionAt(turn)
}

// saved is a disk of two sectors on which versions of its page were saved, from one turn to another.
func saved(t *testing.T, first, last int) *disk.Disk {
	t.Helper()
	d := made(t, 2)
	for turn := first; turn <= last; turn++ {
		save(t, d, 0, 0, versionAt(turn))
	}
	return d
}

// cutShort saves a version on a disk whose power fails behind so many steps, fewer than Save takes.
func cutShort(t *testing.T, d *disk.Disk, base, n int, v version, fuse int) {
	t.Helper()
	pending, syncs := d.Pending(), d.Syncs()
	d.Fuse(fuse)
	if e := slot.Save(d, base, n, v.turn, v.page); e != api.ErrDown || !d.Down() {
		t.Fatalf("Save with a fuse of %d is %d, and Down %t; want ErrDown, true", fuse, e, d.Down())
	}
	if d.Pending() != pending+fuse || d.Syncs() != syncs {
		t.Fatalf("Save with a fuse of %d leaves %d writes pending and %d synchronizations; want %d, %d", fuse, d.Pending(), d.Syncs(), pending+fuse, syncs)
	}
}

// crashesAt are crashes that tear the last of some writes behind so many bytes, with all kinds of others kept.
func crashesAt(pending, cut int) []api.Crash {
	var all []int
	for i := range pending {
		all = append(all, i)
	}
	l := []api.Crash{{}, {Keep: all}, {Keep: all[:max(pending-1, 0)]}, {Keep: []int{-1, pending, pending - 1}}}
	for i := range l {
		l[i].Torn, l[i].Cut = true, cut
	}
	return l
}

// P11.2: the write of Save is torn at each byte, with versions in both sectors, in one, or in none.
func TestTornSave(t *testing.T) {
	t.Parallel()
	for _, start := range []int{1, 2, 3, 4, 5, 125, 126, 127, 16383, 1<<35 - 1, most - 4} {
		for count := range 4 {
			d, last, v := saved(t, start, start+count-1), version{}, versionAt(start+count)
			if count > 0 {
				last = versionAt(start + count - 1)
			}
			cutShort(t, d, 0, 0, v, 1)
			for _, cut := range allCuts() {
				want := last
				if cut >= api.SectorBytes {
					want = v
				}
				for _, c := range crashesAt(1, cut) {
					wantLoaded(t, "a torn Save", d.Crash(c), 0, 0, want)
				}
			}
			wantLoaded(t, "a Save that is lost", d.Crash(api.Crash{}), 0, 0, last)
			wantLoaded(t, "a Save that is kept", d.Crash(api.Crash{Keep: []int{0}}), 0, 0, v)
		}
	}
}

// P11.2: versions that differ in a few bytes, or in all of them, are not mixed, wherever the write is torn.
func TestTornPages(t *testing.T) {
	t.Parallel()
	pages := append(goodPages(), fullest(), cells(cell("a", "x")), cells(cell("a", "y")), cells(cell("b", "x")))
	for i, p := range pages {
		for _, q := range []api.Page{{}, pages[(i+1)%len(pages)], pages[(7*i+3)%len(pages)], fullest()} {
			d := made(t, 2)
			save(t, d, 0, 0, version{8, q})
			save(t, d, 0, 0, version{9, p})
			cutShort(t, d, 0, 0, version{10, p}, 1)
			for cut := range api.SectorBytes {
				wantLoaded(t, "torn", d.Crash(api.Crash{Torn: true, Cut: cut}), 0, 0, version{9, p})
			}
			wantLoaded(t, "whole", d.Crash(api.Crash{Torn: true, Cut: api.SectorBytes}), 0, 0, version{10, p})
		}
	}
}

// P11.2: behind a torn Save, the version that is loaded is followed by one that is saved, whole or torn at each byte again.
func TestTornBehindTorn(t *testing.T) {
	t.Parallel()
	for _, one := range cuts {
		for _, two := range allCuts() {
			d, last := saved(t, 1, 4), 4
			for _, cut := range []int{one, two, one, two} {
				cutShort(t, d, 0, 0, versionAt(last+1), 1)
				d = d.Crash(api.Crash{Torn: true, Cut: cut})
				if cut >= api.SectorBytes {
					last++
				}
				wantLoaded(t, "torn behind torn", d, 0, 0, versionAt(last))
			}
			last++
			save(t, d, 0, 0, versionAt(last))
			wantLoaded(t, "saved behind torn", d, 0, 0, versionAt(last))
			wantLoaded(t, "saved behind torn, and a crash", d.Crash(api.Crash{Torn: true, Cut: two}), 0, 0, versionAt(last))
		}
	}
}

// P11.2: torn behind each number of bytes, again and again, always at another one.
func TestTornManyTimes(t *testing.T) {
	t.Parallel()
	for step := 1; step <= 257; step += 8 {
		d, last := saved(t, 9, 10), 10
		for i := range 120 {
			cutShort(t, d, 0, 0, versionAt(last+1), 1)
			cut := (i + 1) * step % 258
			d = d.Crash(api.Crash{Torn: true, Cut: cut})
			if cut >= api.SectorBytes {
				last++
			}
			wantLoaded(t, "torn again", d, 0, 0, versionAt(last))
		}
	}
}

// P11.2: the power fails at the write of Save: nothing of it is there, whatever a crash keeps.
func TestPowerFailsAtWrite(t *testing.T) {
	for count := range 5 {
		d := saved(t, 1, count)
		cutShort(t, d, 0, 0, versionAt(count+1), 0)
		for _, cut := range cuts {
			for _, c := range crashesAt(1, cut) {
				wantLoaded(t, "a write that was not made", d.Crash(c), 0, 0, lastOf(count))
			}
		}
	}
}

// P11.2: behind a Save that returned OK, no crash takes its version away.
func TestCrashBehindSave(t *testing.T) {
	for count := 1; count < 5; count++ {
		d := saved(t, 1, count)
		for _, cut := range allCuts() {
			for _, c := range crashesAt(2, cut) {
				wantLoaded(t, "a crash behind Save", d.Crash(c), 0, 0, versionAt(count))
			}
		}
	}
}

// P11.2: writes to other sectors are pending ahead of Save; the power fails at each step, and any of the writes are kept.
func TestSaveBesideOthers(t *testing.T) {
	for others := range 4 {
		for fuse := range 2 {
			d := made(t, 4)
			save(t, d, 1, 0, versionAt(1))
			save(t, d, 1, 0, versionAt(2))
			for i := range others {
				if e := d.Write(3*(i%2), written(1, versionAt(100+i))); e != api.OK {
					t.Fatalf("Write fails with %d", e)
				}
			}
			cutShort(t, d, 1, 0, versionAt(3), fuse)
			for mask := range 1 << (others + fuse) {
				c, want := api.Crash{}, versionAt(2)
				for i := range others + fuse {
					if mask>>i&1 == 1 {
						c.Keep = append(c.Keep, i)
					}
				}
				if fuse == 1 && slices.Contains(c.Keep, others) {
					want = versionAt(3)
				}
				wantLoaded(t, "others pending", d.Crash(c), 1, 0, want)
				for _, cut := range cuts {
					c.Torn, c.Cut, want = true, cut, versionAt(2)
					if fuse == 1 && cut >= api.SectorBytes {
						want = versionAt(3)
					}
					wantLoaded(t, "others pending, and the last one torn", d.Crash(c), 1, 0, want)
				}
			}
		}
	}
}

// fate is where the power fails in a Save, and what a crash leaves of it. The Save of a fuse of 2 returns OK.
type fate struct {
	fuse  int
	crash api.Crash
}

// fates are all kinds of them.
func fates() []fate {
	l := []fate{{0, api.Crash{}}, {1, api.Crash{}}, {1, api.Crash{Keep: []int{0}}}, {2, api.Crash{}}}
	for _, cut := range []int{0, 1, 2, 5, 254, 255, 256} {
		for fuse := range 3 {
			l = append(l, fate{fuse, api.Crash{Torn: true, Cut: cut}})
		}
	}
	return l
}

// lasts tells whether a version that meets a fate is there behind it.
func (f fate) lasts() bool {
	switch {
	case f.fuse == 1 && f.crash.Torn:
		return f.crash.Cut >= api.SectorBytes
	case f.fuse == 1:
		return slices.Contains(f.crash.Keep, 0)
	default:
		return f.fuse > 1
	}
}

// meet saves the version behind the last one on a disk, which then crashes. It is the disk that is left, and the last turn on it.
func (f fate) meet(t *testing.T, d *disk.Disk, base, n, last int) (*disk.Disk, int) {
	t.Helper()
	if f.fuse < 2 {
		cutShort(t, d, base, n, versionAt(last+1), f.fuse)
	} else {
		save(t, d, base, n, versionAt(last+1))
	}
	d = d.Crash(f.crash)
	if f.lasts() {
		last++
	}
	wantLoaded(t, "a crash", d, base, n, lastOf(last))
	return d, last
}

// P11.2: all sequences of three fates, from disks with no version, one or two.
func TestAllSequencesOfFates(t *testing.T) {
	t.Parallel()
	var follow func(d *disk.Disk, last int, deep int)
	follow = func(d *disk.Disk, last int, deep int) {
		for _, f := range fates() {
			// A crash that changes nothing makes a disk of its own.
			left, then := f.meet(t, d.Crash(api.Crash{}), 0, 0, last)
			if t.Failed() {
				t.Fatalf("with %d fates to come, behind turn %d: %v", deep, last, f)
			}
			if deep > 0 {
				follow(left, then, deep-1)
			}
		}
	}
	follow(made(t, 2), 0, 2)
	follow(saved(t, 1, 1), 1, 2)
	follow(saved(t, 1, 2), 2, 2)
	follow(saved(t, 126, 127), 127, 2)
}

// P11.2: whatever a page's sectors contained that is no version, intact or not, the first versions last as all others do.
func TestFirstVersions(t *testing.T) {
	t.Parallel()
	for first := range 5 {
		for last := range 5 {
			old := noise(256, first)
			old[0], old[1], old[255] = byte(first), 0, byte(last)
			for _, cut := range allCuts() {
				d := holding(t, old, old)
				turn := 0
				for range 4 {
					cutShort(t, d, 1, 0, versionAt(turn+1), 1)
					d = d.Crash(api.Crash{Torn: true, Cut: cut})
					if cut >= api.SectorBytes {
						turn++
					}
					wantLoaded(t, "torn", d, 1, 0, lastOf(turn))
					turn++
					save(t, d, 1, 0, versionAt(turn))
					wantLoaded(t, "saved", d, 1, 0, versionAt(turn))
				}
			}
		}
	}
}

// P11.2: a long sequence of saves, some of which are cut short, behind any number of crashes.
func TestManyCrashes(t *testing.T) {
	t.Parallel()
	var r draw
	d, last := made(t, 2), 0
	for range 20000 {
		f := fate{r.below(3), api.Crash{Torn: r.below(3) > 0, Cut: r.below(260) - 2}}
		if r.below(2) == 0 {
			f.crash.Keep = []int{0}
		}
		d, last = f.meet(t, d, 0, 0, last)
		if t.Failed() {
			t.Fatalf("behind turn %d: %v", last, f)
		}
		for range r.below(3) {
			last++
			save(t, d, 0, 0, versionAt(last))
			wantLoaded(t, "saved between crashes", d, 0, 0, versionAt(last))
		}
	}
	if last < 10000 {
		t.Errorf("the last turn is %d", last)
	}
}
