package master_test

import (
	"math"
	"slices"
	"testing"

	"troth/api"
	"troth/disk"
	"troth/master"
)

// cuts are of all kinds, and around both ends of a sector.
var cuts = []int{math.MinInt, -1, 0, 1, 2, 7, 31, 128, 254, 255, 256, 257, math.MaxInt}

// allCuts are at each byte of a sector, and beyond both ends.
func allCuts() []int {
	l := []int{math.MinInt, math.MaxInt}
	for cut := -1; cut <= api.SectorBytes+1; cut++ {
		l = append(l, cut)
	}
	return l
}

// saved is a disk of two sectors on which records were saved, from one Gen to another.
func saved(t *testing.T, first, last int) *disk.Disk {
	t.Helper()
	d := made(t, 2)
	for gen := first; gen <= last; gen++ {
		save(t, d, recordOf(gen))
	}
	return d
}

// cutShort saves a record on a disk whose power fails behind so many steps, fewer than Save takes.
func cutShort(t *testing.T, d *disk.Disk, m api.Master, fuse int) {
	t.Helper()
	pending, syncs := d.Pending(), d.Syncs()
	d.Fuse(fuse)
	if e := master.Save(d, m); e != api.ErrDown || !d.Down() {
		t.Fatalf("Save with a fuse of %d is %d, and Down %t; want ErrDown, true", fuse, e, d.Down())
	}
	if d.Pending() != pending+fuse || d.Syncs() != syncs {
		t.Fatalf("Save with a fuse of %d leaves %d writes pending and %d synchronizations; want %d, %d", fuse, d.Pending(), d.Syncs(), pending+fuse, syncs)
	}
	wantNotLoaded(t, "a disk that went down in Save", d, api.ErrDown)
}

// P6.1: the power fails at Save's write, at its synchronization, or not at all; Load takes no step of the fuse.
func TestStepsOfSave(t *testing.T) {
	for fuse := range 9 {
		d := made(t, 2)
		d.Fuse(fuse)
		gen := 1
		for ; 2*gen <= fuse; gen++ {
			save(t, d, recordOf(gen))
			wantLoaded(t, "one saved", d, recordOf(gen))
			if d.Down() {
				t.Fatalf("behind %d saves with a fuse of %d, the disk is down", gen, fuse)
			}
		}
		cutShort(t, d, recordOf(gen), fuse%2)
		wantNotSaved(t, "a disk that is down", d, recordOf(gen), api.ErrDown)
		var last api.Master
		if gen > 1 {
			last = recordOf(gen - 1)
		}
		wantLoad(t, "a crash that keeps nothing", d.Crash(api.Crash{}), last)
		if fuse%2 == 1 {
			last = recordOf(gen)
		}
		wantLoad(t, "a crash that keeps all", d.Crash(api.Crash{Keep: []int{0}}), last)
	}
}

// crashesAt are crashes that tear the last of some writes behind so many bytes, with all kinds of others kept.
func crashesAt(pending, cut int) []api.Crash {
	var all []int
	for i := range pending {
		all = append(all, i)
	}
	l := []api.Crash{{}, {Keep: all}, {Keep: all[:max(pending-1, 0)]}, {Keep: []int{-1, pending, pending - 1}}}
	for i := range l {
		l[i].Torn, l[i].Cut = true, cut
	}
	return l
}

// P6.3: the write of Save is torn at each byte, with records in both sectors, in one, or in none.
func TestTornSave(t *testing.T) {
	for _, start := range []int{1, 2, 125, 126, 127, 16383, 1<<35 - 1, most - 4} {
		for count := range 4 {
			d := saved(t, start, start+count-1)
			m := recordOf(start + count)
			var last api.Master
			if count > 0 {
				last = recordOf(start + count - 1)
			}
			cutShort(t, d, m, 1)
			for _, cut := range allCuts() {
				want := last
				if cut >= api.SectorBytes {
					want = m
				}
				for _, c := range crashesAt(1, cut) {
					wantLoad(t, "a torn Save", d.Crash(c), want)
				}
			}
			wantLoad(t, "a Save that is lost", d.Crash(api.Crash{}), last)
			wantLoad(t, "a Save that is kept", d.Crash(api.Crash{Keep: []int{0}}), m)
		}
	}
}

// P6.3: behind a torn Save, the record that is loaded is followed by one that is saved, whole or torn at each byte again.
func TestTornBehindTorn(t *testing.T) {
	for _, one := range cuts {
		for _, two := range allCuts() {
			d := saved(t, 1, 4)
			last := recordOf(4)
			for _, cut := range []int{one, two, one, two} {
				next := recordOf(last.Gen + 1)
				cutShort(t, d, next, 1)
				d = d.Crash(api.Crash{Torn: true, Cut: cut})
				if cut >= api.SectorBytes {
					last = next
				}
				wantLoaded(t, "torn behind torn", d, last)
			}
			last = recordOf(last.Gen + 1)
			save(t, d, last)
			wantLoaded(t, "saved behind torn", d, last)
			wantLoaded(t, "saved behind torn, and a crash", d.Crash(api.Crash{Torn: true, Cut: two}), last)
		}
	}
}

// P6.3: torn behind each number of bytes, again and again, always at another one.
func TestTornManyTimes(t *testing.T) {
	for step := 1; step <= 257; step += 8 {
		d := saved(t, 9, 10)
		last := recordOf(10)
		for i := range 120 {
			next := recordOf(last.Gen + 1)
			cutShort(t, d, next, 1)
			cut := (i + 1) * step % 258
			d = d.Crash(api.Crash{Torn: true, Cut: cut})
			if cut >= api.SectorBytes {
				last = next
			}
			wantLoaded(t, "torn again", d, last)
		}
	}
}

// P6.3: the power fails at the write of Save: nothing of it is there, whatever a crash keeps.
func TestPowerFailsAtWrite(t *testing.T) {
	for count := range 5 {
		d := saved(t, 1, count)
		var last api.Master
		if count > 0 {
			last = recordOf(count)
		}
		cutShort(t, d, recordOf(count+1), 0)
		for _, cut := range cuts {
			for _, c := range crashesAt(1, cut) {
				wantLoad(t, "a write that was not made", d.Crash(c), last)
			}
		}
	}
}

// P6.3: behind a Save that returned OK, no crash takes its record away.
func TestCrashBehindSave(t *testing.T) {
	for count := 1; count < 5; count++ {
		d := saved(t, 1, count)
		for _, cut := range allCuts() {
			for _, c := range crashesAt(2, cut) {
				wantLoaded(t, "a crash behind Save", d.Crash(c), recordOf(count))
			}
		}
	}
}

// P6.3: writes to other sectors are pending ahead of Save; the power fails at each step, and any of the writes are kept.
func TestSaveBesideOthers(t *testing.T) {
	for others := range 4 {
		for fuse := range 2 {
			d := made(t, 4)
			save(t, d, recordOf(1))
			save(t, d, recordOf(2))
			for i := range others {
				write(t, d, 2+i%2, stamped(1, encoded(recordOf(100+i))))
			}
			cutShort(t, d, recordOf(3), fuse)
			for mask := range 1 << (others + fuse) {
				c := api.Crash{}
				want := recordOf(2)
				for i := range others + fuse {
					if mask>>i&1 == 1 {
						c.Keep = append(c.Keep, i)
					}
				}
				if fuse == 1 && slices.Contains(c.Keep, others) {
					want = recordOf(3)
				}
				wantLoaded(t, "others pending", d.Crash(c), want)
				for _, cut := range cuts {
					c.Torn, c.Cut = true, cut
					want = recordOf(2)
					if fuse == 1 && cut >= api.SectorBytes {
						want = recordOf(3)
					}
					wantLoaded(t, "others pending, and the last one torn", d.Crash(c), want)
				}
			}
		}
	}
}

// fate is where the power fails in a Save, and what a crash leaves of it. The Save of a fuse of 2 returns OK.
type fate struct {
	fuse  int
	crash api.Crash
}

// fates are all kinds of them.
func fates() []fate {
	l := []fate{{0, api.Crash{}}, {1, api.Crash{}}, {1, api.Crash{Keep: []int{0}}}, {2, api.Crash{}}}
	for _, cut := range []int{0, 1, 2, 5, 254, 255, 256} {
		for fuse := range 3 {
			l = append(l, fate{fuse, api.Crash{Torn: true, Cut: cut}})
		}
	}
	return l
}

// lasts tells whether a record that meets a fate is there behind it.
func (f fate) lasts() bool {
	switch {
	case f.fuse == 1 && f.crash.Torn:
		return f.crash.Cut >= api.SectorBytes
	case f.fuse == 1:
		return slices.Contains(f.crash.Keep, 0)
	default:
		return f.fuse > 1
	}
}

// meet saves the record behind the last one on a disk, which then crashes. It is the disk that is left, and the last record on it.
func (f fate) meet(t *testing.T, d *disk.Disk, last api.Master) (*disk.Disk, api.Master) {
	t.Helper()
	next := recordOf(last.Gen + 1)
	if f.fuse < 2 {
		cutShort(t, d, next, f.fuse)
	} else {
		save(t, d, next)
	}
	d = d.Crash(f.crash)
	if f.lasts() {
		last = next
	}
	wantLoad(t, "a crash", d, last)
	return d, last
}

// P6.3: all sequences of three fates, from disks with no record, one or two, and with the last one torn.
func TestAllSequencesOfFates(t *testing.T) {
	var follow func(d *disk.Disk, last api.Master, deep int)
	follow = func(d *disk.Disk, last api.Master, deep int) {
		for _, f := range fates() {
			// A crash that changes nothing makes a disk of its own.
			left, then := f.meet(t, d.Crash(api.Crash{}), last)
			if t.Failed() {
				t.Fatalf("with %d fates to come, behind Gen %d: %v", deep, last.Gen, f)
			}
			if deep > 0 {
				follow(left, then, deep-1)
			}
		}
	}
	follow(made(t, 2), api.Master{}, 2)
	follow(saved(t, 1, 1), recordOf(1), 2)
	follow(saved(t, 1, 2), recordOf(2), 2)
	follow(saved(t, 126, 127), recordOf(127), 2)
}

// draw is numbers without a pattern, always the same ones.
type draw uint64

// below is a number from 0 to n - 1.
func (d *draw) below(n int) int {
	*d = *d*6364136223846793005 + 1442695040888963407
	return int(uint64(*d) >> 33 % uint64(n))
}

// pick is one of a list.
func (d *draw) pick(l []int) int { return l[d.below(len(l))] }

// P6.3: a long sequence of saves, some of which are cut short, behind any number of crashes.
func TestManyCrashes(t *testing.T) {
	var r draw
	d, last := made(t, 2), api.Master{}
	for range 20000 {
		f := fate{r.below(3), api.Crash{Torn: r.below(3) > 0, Cut: r.below(260) - 2}}
		if r.below(2) == 0 {
			f.crash.Keep = []int{0}
		}
		d, last = f.meet(t, d, last)
		if t.Failed() {
			t.Fatalf("behind Gen %d: %v", last.Gen, f)
		}
		for range r.below(3) {
			last = recordOf(last.Gen + 1)
			save(t, d, last)
			wantLoaded(t, "saved between crashes", d, last)
		}
	}
	if last.Gen < 10000 {
		t.Errorf("the last Gen is %d", last.Gen)
	}
}

// outcome is what a call answers, and what it is seen to leave.
type outcome struct {
	e              api.Errno
	m              api.Master
	pending, syncs int
	down           bool
}

// record is one of numbers that may be and that may not.
func (r *draw) record() api.Master {
	m := recordOf(1 + r.below(40))
	if r.below(3) == 0 {
		m = withNumber(m, r.below(5), r.pick(slices.Concat(gens, fields, notNumbers)))
	}
	return m
}

// act is a call of any kind with any arguments, and its outcome.
func (r *draw) act(d *disk.Disk) (*disk.Disk, outcome) {
	var o outcome
	switch r.below(8) {
	case 0, 1, 2:
		o.e = master.Save(d, r.record())
	case 3, 4:
		o.m, o.e = master.Load(d)
	case 5:
		d.Fuse(r.below(20))
	case 6:
		d.Write(r.below(2), noise(256, r.below(1000)))
	default:
		d = d.Crash(api.Crash{Keep: []int{0, 2, 3}, Torn: true, Cut: r.below(258)})
	}
	o.pending, o.syncs, o.down = d.Pending(), d.Syncs(), d.Down()
	return d, o
}

// P0.1 and P0.5: whatever is passed, nothing panics, and the same calls have the same results.
func TestSameCallsSameResults(t *testing.T) {
	for _, sectors := range []int{1, 2, 3} {
		one, two := made(t, sectors), made(t, sectors)
		var r, s draw
		for i := range 20000 {
			var a, b outcome
			one, a = r.act(one)
			two, b = s.act(two)
			if a != b {
				t.Fatalf("call %d has the outcomes %v and %v", i, a, b)
			}
			if a.e != api.OK && a.m != (api.Master{}) {
				t.Fatalf("call %d fails with %d, and %v beside it", i, a.e, a.m)
			}
		}
	}
}
