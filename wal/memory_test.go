package wal_test

import (
	"slices"
	"testing"

	"troth/api"
)

// spoilList overwrites a list, and what its memory has beyond it.
func spoilList[T any](l []T, with T) {
	l = l[:cap(l)]
	for i := range l {
		l[i] = with
	}
}

// spoil overwrites all lists of a record, those in other lists first.
func spoil(r api.Rec) {
	for _, row := range r.Rows {
		spoilList(row.Members, 77)
		spoilList(row.Locks, api.Lock{Key: "spoilt"})
	}
	for _, deed := range r.Deeds {
		spoilList(deed.Members, 77)
	}
	spoilList(r.Members, 77)
	spoilList(r.Locks, api.Lock{Key: "spoilt"})
	spoilList(r.Past, 77)
	spoilList(r.Dirty, api.Dirty{Page: 77})
	spoilList(r.Rows, api.Row{Tx: 77})
	spoilList(r.Deeds, api.Deed{Tx: 77})
}

// withRoom is a list with room behind it, and what tells whether the room is as it was.
func withRoom[T comparable](l []T, behind T) ([]T, func() bool) {
	whole := append(slices.Clone(l), behind)
	return whole[:len(l)], func() bool { return whole[len(l)] == behind }
}

// P9.4: a record stays as it was appended, whatever becomes of the argument, whether it was forced or not.
func TestArgumentsAreNotKept(t *testing.T) {
	p := fresh(t, 64)
	for _, r := range append(kinds(), recordOf(3000, 1), recordOf(4096, 2)) {
		p.add(t, r)
		spoil(r)
		wantLog(t, "behind a change of the argument", p.l, p.m)
	}
	p.force(t)
	p.wantReopened(t, "behind changes of arguments")
	records := append(kinds(), recordOf(3000, 1))
	p.add(t, records...)
	p.force(t)
	for _, r := range records {
		spoil(r)
	}
	wantLog(t, "behind a change of arguments that were forced", p.l, p.m)
	p.wantReopened(t, "behind a change of arguments that were forced")
}

// P0.3: Append does not change its argument, or what is behind its lists.
func TestArgumentsAreNotChanged(t *testing.T) {
	p := fresh(t, 64)
	for _, spare := range []int{0, 64} {
		for _, r := range kinds() {
			body := bodyOf(t, r)
			var same [3]func() bool
			r.Members, same[0] = withRoom(r.Members, 5)
			r.Locks, same[1] = withRoom(r.Locks, api.Lock{Key: "behind"})
			r.Past, same[2] = withRoom(r.Past, 5)
			p.append(t, r, spare)
			if bodyOf(t, r) != body || !same[0]() || !same[1]() || !same[2]() {
				t.Fatalf("Append changes its argument to %+v, or what is behind its lists", r)
			}
		}
	}
}

// P9.4: what Get returned is nobody else's, of records that were forced, of others, and of those that were found by Open.
func TestResultsAreNewMemory(t *testing.T) {
	p := fresh(t, 64)
	check := func(what string) {
		for i := range p.m.bodies {
			lsn := p.m.first() + i
			one, e := p.l.Get(lsn)
			two, f := p.l.Get(lsn)
			if e != api.OK || f != api.OK {
				t.Fatalf("%s: Get(%d) is %d, %d", what, lsn, e, f)
			}
			spoil(one)
			if bodyOf(t, two) != p.m.bodies[i] {
				t.Fatalf("%s: a change of what Get(%d) returned changes another result", what, lsn)
			}
			wantLog(t, what+", behind a change of a result", p.l, p.m)
		}
	}
	p.add(t, append(kinds(), recordOf(3000, 1))...)
	check("records that were not forced")
	p.force(t)
	check("records that were forced")
	p = p.wantReopened(t, "behind changes of results")
	check("records that Open found")
	p.mark(t, 3, 5)
	check("records behind Mark")
	p.add(t, kinds()...)
	check("records of all kinds")
	p.force(t)
	p.wantReopened(t, "behind changes of results")
}

// P9.4: the lists of one result share no memory.
func TestListsOfAResultShareNothing(t *testing.T) {
	p := fresh(t, 64)
	p.add(t, kinds()...)
	for lsn := 1; lsn <= p.l.Last(); lsn++ {
		r, _ := p.l.Get(lsn)
		locks := [][]api.Lock{r.Locks}
		members := [][]int{r.Members, r.Past}
		for _, row := range r.Rows {
			locks, members = append(locks, row.Locks), append(members, row.Members)
		}
		for _, deed := range r.Deeds {
			members = append(members, deed.Members)
		}
		for i := range locks {
			locks[i] = append(locks[i], api.Lock{Key: "behind"})
		}
		for i := range members {
			members[i] = append(members[i], 77)
		}
		if bodyOf(t, r) != p.m.bodies[lsn-1] {
			t.Fatalf("what is appended to the lists of a result changes others: %+v", r)
		}
	}
}

// P0.3: a result of Get that was put into another log, or into this one again, is a record of its own.
func TestResultsAsArguments(t *testing.T) {
	p := fresh(t, 64)
	p.add(t, kinds()...)
	for lsn := range len(kinds()) {
		r, e := p.l.Get(1 + lsn)
		if e != api.OK {
			t.Fatalf("Get is %d", e)
		}
		p.add(t, r)
		spoil(r)
		wantLog(t, "a result that was appended", p.l, p.m)
	}
	p.force(t)
	p.wantReopened(t, "results that were appended")
}

// P9.4: a disk that a crash left does not share anything with the log.
func TestCrashIsApart(t *testing.T) {
	p := fresh(t, 8)
	p.addSizes(t, 20, 300)
	p.force(t)
	left := p.d.Crash(api.Crash{})
	before := sectorsOn(t, left)
	for range 30 {
		p.addSizes(t, 100)
		p.force(t)
		p.mark(t, 0, p.l.Last())
	}
	wantOnly(t, "a log that goes on", before, sectorsOn(t, left))
}
