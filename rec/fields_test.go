package rec_test

import (
	"math"
	"slices"
	"strings"

	"troth/api"
)

// change is a way in which a record is changed.
type change struct {
	what string
	to   func(r *api.Rec)
}

// setting is a change of one field to each of some values.
func setting[T any](what string, field func(r *api.Rec) *T, values ...T) []change {
	var l []change
	for _, v := range values {
		l = append(l, change{what, func(r *api.Rec) { *field(r) = v }})
	}
	return l
}

// changed is a record with a change.
func changed(r api.Rec, c change) api.Rec {
	r = plain(r)
	c.to(&r)
	return r
}

// field is a field of a record: what it may be set to where a kind has it, what it may not, and what is zero.
type field struct {
	name            string
	good, bad, zero []change
}

// kindFields are the names of the fields that each kind has.
func kindFields(kind int) []string {
	switch kind {
	case api.RecUpdate:
		return []string{"Tx", "Prev", "Key", "Old", "New"}
	case api.RecClr:
		return []string{"Tx", "Prev", "Next", "Key", "New"}
	case api.RecPrepare:
		return []string{"Tx", "Prev", "Coord", "Members", "Locks"}
	case api.RecCommit, api.RecAbort, api.RecEnd:
		return []string{"Tx", "Prev"}
	case api.RecCheck:
		return []string{"Rows", "Dirty", "Deeds", "Past"}
	case api.RecDecide:
		return []string{"Tx", "Members"}
	case api.RecForget:
		return []string{"Tx"}
	default:
		return nil
	}
}

func makeList[T any](n int, element func(i int) T) []T {
	l := []T{}
	for i := range n {
		l = append(l, element(i))
	}
	return l
}

func upFrom(least, n int) []int {
	return makeList(n, func(i int) int { return least + i })
}

func lockList(n, long int) []api.Lock {
	return makeList(n, func(i int) api.Lock { return api.Lock{Key: keyOf(i, long), X: i%2 == 0} })
}

// noSeqs are what neither a transaction number nor an LSN may be.
func noSeqs() []int {
	return []int{-1, -2, most + 1, most + 2, 2 * most, -most, 1 << 56, 1<<62 + 1, math.MinInt, math.MinInt + 1, math.MaxInt}
}

func seqs() []int {
	return []int{1, 2, 63, 64, 127, 128, 16383, 16384, 1<<35 - 1, 1 << 35, most - 1, most}
}

func noNodes() []int { return append(noSeqs(), 8, 9, 255, 256, most) }

func states() []int { return []int{api.Active, api.Prepared, api.Committed, api.Aborting} }

func noStates() []int { return append(noSeqs(), 0, 5, 6, most) }

func keys() []string {
	return []string{"k", "\x00", "\xff", "a key", "ünïcode", strings.Repeat("k", 15), strings.Repeat("\xff", 16), keyOf(5, 16)}
}

func noKeys() []string {
	return []string{"", strings.Repeat("k", 17), strings.Repeat("k", 18), strings.Repeat("\x00", 32), strings.Repeat("k", 33), strings.Repeat("k", 5000)}
}

func values() []api.Value {
	return []api.Value{{}, {Has: true}, {Has: true, Data: "v"}, {Has: true, Data: "\x00"}, {Has: true, Data: strings.Repeat("\xff", 31)}, {Has: true, Data: strings.Repeat("v", 32)}}
}

func noValues() []api.Value {
	return []api.Value{{Data: "v"}, {Data: "\x00"}, {Data: strings.Repeat("v", 32)}, {Data: strings.Repeat("v", 33)}, {Has: true, Data: strings.Repeat("v", 33)}, {Has: true, Data: strings.Repeat("v", 5000)}}
}

func memberLists() [][]int {
	l := [][]int{nil, {}, {0, 7}, {1, 2, 4}, upFrom(0, 8), upFrom(1, 7)}
	for n := range 8 {
		l = append(l, []int{n})
	}
	return l
}

func noMemberLists() [][]int {
	l := [][]int{{1, 0}, {7, 0}, {3, 3}, {0, 0}, {0, 1, 1}, {0, 2, 1}, {1, 2, 0}, {0, -1}, {-1, 0}, {0, 8}, upFrom(0, 9), append(upFrom(0, 8), 7), upFrom(0, 256), upFrom(0, 257), make([]int, 9), make([]int, 256), make([]int, 257), make([]int, 10000)}
	for _, n := range noNodes() {
		l = append(l, []int{n}, []int{0, n})
	}
	return l
}

func lockLists() [][]api.Lock {
	l := [][]api.Lock{nil, {}, {{Key: "a"}, {Key: "b", X: true}}, {{Key: "a"}, {Key: "a\x00"}}, {{Key: "a"}, {Key: "aa"}, {Key: "b"}}, {{Key: "\x7f", X: true}, {Key: "\x80"}}, lockList(63, 2), lockList(64, 2), lockList(64, 16)}
	for _, k := range keys() {
		l = append(l, []api.Lock{{Key: k}}, []api.Lock{{Key: k, X: true}})
	}
	return l
}

func noLockLists() [][]api.Lock {
	l := [][]api.Lock{{{Key: "b"}, {Key: "a"}}, {{Key: "a"}, {Key: "a"}}, {{Key: "a"}, {Key: "a", X: true}}, {{Key: "a", X: true}, {Key: "a"}}, {{Key: "aa"}, {Key: "a"}}, {{Key: "b"}, {Key: "aa"}}, {{Key: "\x80"}, {Key: "\x7f"}}, {{Key: "a"}, {Key: "c"}, {Key: "b"}}, lockList(65, 2), lockList(256, 3), lockList(257, 3), make([]api.Lock, 64), make([]api.Lock, 257)}
	for _, k := range noKeys() {
		l = append(l, []api.Lock{{Key: k}}, []api.Lock{{Key: k, X: true}}, []api.Lock{{Key: "a"}, {Key: k}})
	}
	return l
}

// rowOf is a row of a transaction.
func rowOf(tx int) api.Row {
	return api.Row{Tx: tx, State: api.Prepared, First: 300, Last: 301, Undo: 0, Coord: 2, Members: []int{2, 5}, Locks: []api.Lock{{Key: "a", X: true}, {Key: "b"}}}
}

// rowsOf are lists of one row each, which has each of some values in a field.
func rowsOf[T any](field func(r *api.Row) *T, values ...T) [][]api.Row {
	var l [][]api.Row
	for _, v := range values {
		r := rowOf(5)
		*field(&r) = v
		l = append(l, []api.Row{r})
	}
	return l
}

// rowsWith are lists of one row each, with these values of its fields.
func rowsWith(tx, seq, node, state []int, members [][]int, locks [][]api.Lock) [][]api.Row {
	l := rowsOf(func(r *api.Row) *int { return &r.Tx }, tx...)
	l = append(l, rowsOf(func(r *api.Row) *int { return &r.First }, seq...)...)
	l = append(l, rowsOf(func(r *api.Row) *int { return &r.Last }, seq...)...)
	l = append(l, rowsOf(func(r *api.Row) *int { return &r.Undo }, seq...)...)
	l = append(l, rowsOf(func(r *api.Row) *int { return &r.Coord }, node...)...)
	l = append(l, rowsOf(func(r *api.Row) *int { return &r.State }, state...)...)
	l = append(l, rowsOf(func(r *api.Row) *[]int { return &r.Members }, members...)...)
	return append(l, rowsOf(func(r *api.Row) *[]api.Lock { return &r.Locks }, locks...)...)
}

func rowLists() [][]api.Row {
	l := rowsWith(seqs(), append(seqs(), 0), upFrom(0, 8), states(), memberLists(), lockLists())
	least := api.Row{Tx: 1, State: api.Active}
	return append(l, nil, []api.Row{}, []api.Row{least}, []api.Row{least, rowOf(2)}, []api.Row{rowOf(1), rowOf(most)}, makeList(64, func(i int) api.Row { return rowOf(i + 1) }), makeList(64, func(i int) api.Row { return api.Row{Tx: most - 63 + i, State: 1 + i%4} }))
}

func noRowLists() [][]api.Row {
	l := rowsWith(append(noSeqs(), 0), noSeqs(), noNodes(), noStates(), noMemberLists(), noLockLists())
	return append(l, []api.Row{{}}, []api.Row{rowOf(5), rowOf(5)}, []api.Row{rowOf(5), rowOf(4)}, []api.Row{rowOf(1), rowOf(3), rowOf(2)}, []api.Row{rowOf(1), {}}, makeList(65, func(i int) api.Row { return rowOf(i + 1) }), make([]api.Row, 64), make([]api.Row, 257))
}

func dirtyLists() [][]api.Dirty {
	l := [][]api.Dirty{nil, {}, {{Page: 0, Rec: 1}}, {{Page: 63, Rec: most}}, {{Page: 0, Rec: 9}, {Page: 63, Rec: 8}}, {{Page: 4, Rec: 8}, {Page: 5, Rec: 8}}, makeList(63, func(i int) api.Dirty { return api.Dirty{Page: 1 + i, Rec: 1} }), makeList(64, func(i int) api.Dirty { return api.Dirty{Page: i, Rec: 500 - i} })}
	for _, n := range seqs() {
		l = append(l, []api.Dirty{{Page: 7, Rec: n}})
	}
	return l
}

func noDirtyLists() [][]api.Dirty {
	l := [][]api.Dirty{{{}}, {{Page: 64, Rec: 1}}, {{Page: 5, Rec: 1}, {Page: 5, Rec: 2}}, {{Page: 5, Rec: 1}, {Page: 4, Rec: 2}}, {{Page: 1, Rec: 1}, {Page: 3, Rec: 1}, {Page: 2, Rec: 1}}, makeList(65, func(i int) api.Dirty { return api.Dirty{Page: i, Rec: 1} }), makeList(65, func(i int) api.Dirty { return api.Dirty{Page: min(i, 63), Rec: 1} }), make([]api.Dirty, 257)}
	for _, n := range append(noSeqs(), 64, 65, 255, most) {
		l = append(l, []api.Dirty{{Page: n, Rec: 1}}, []api.Dirty{{Page: 0, Rec: 1}, {Page: n, Rec: 1}})
	}
	for _, n := range append(noSeqs(), 0) {
		l = append(l, []api.Dirty{{Page: 1, Rec: n}})
	}
	return l
}

func deedLists() [][]api.Deed {
	l := [][]api.Deed{nil, {}, {{Tx: 5}, {Tx: 6, Members: []int{1}}}, {{Tx: 1}, {Tx: most}}, makeList(64, func(i int) api.Deed { return api.Deed{Tx: 9 + i, Members: []int{i % 8}} })}
	for _, n := range seqs() {
		l = append(l, []api.Deed{{Tx: n, Members: []int{0, 7}}})
	}
	for _, m := range memberLists() {
		l = append(l, []api.Deed{{Tx: 5, Members: m}})
	}
	return l
}

func noDeedLists() [][]api.Deed {
	l := [][]api.Deed{{{}}, {{Tx: 5}, {Tx: 5}}, {{Tx: 5}, {Tx: 5, Members: []int{1}}}, {{Tx: 5}, {Tx: 4}}, {{Tx: 1}, {Tx: 3}, {Tx: 2}}, makeList(65, func(i int) api.Deed { return api.Deed{Tx: i + 1} }), make([]api.Deed, 64), make([]api.Deed, 257)}
	for _, n := range append(noSeqs(), 0) {
		l = append(l, []api.Deed{{Tx: n}}, []api.Deed{{Tx: 1}, {Tx: n}})
	}
	for _, m := range noMemberLists() {
		l = append(l, []api.Deed{{Tx: 5, Members: m}})
	}
	return l
}

func pastLists() [][]int {
	l := [][]int{nil, {}, {1, most}, {5, 6, 1000}, upFrom(1, 255), upFrom(1, 256), upFrom(most-255, 256)}
	for _, n := range seqs() {
		l = append(l, []int{n})
	}
	return l
}

func noPastLists() [][]int {
	l := [][]int{{5, 5}, {5, 4}, {1, 3, 2}, upFrom(1, 257), upFrom(0, 256), upFrom(most-255, 257), append(upFrom(1, 255), 255), make([]int, 256), make([]int, 257), make([]int, 10000)}
	for _, n := range append(noSeqs(), 0) {
		l = append(l, []int{n}, []int{1, n})
	}
	return l
}

// fields are all fields of a record but its Kind.
func fields() []field {
	tx := func(r *api.Rec) *int { return &r.Tx }
	prev := func(r *api.Rec) *int { return &r.Prev }
	next := func(r *api.Rec) *int { return &r.Next }
	coord := func(r *api.Rec) *int { return &r.Coord }
	key := func(r *api.Rec) *string { return &r.Key }
	old := func(r *api.Rec) *api.Value { return &r.Old }
	now := func(r *api.Rec) *api.Value { return &r.New }
	members := func(r *api.Rec) *[]int { return &r.Members }
	locks := func(r *api.Rec) *[]api.Lock { return &r.Locks }
	rows := func(r *api.Rec) *[]api.Row { return &r.Rows }
	dirty := func(r *api.Rec) *[]api.Dirty { return &r.Dirty }
	deeds := func(r *api.Rec) *[]api.Deed { return &r.Deeds }
	past := func(r *api.Rec) *[]int { return &r.Past }
	return []field{
		{"Tx", setting("Tx", tx, seqs()...), setting("Tx", tx, append(noSeqs(), 0)...), setting("Tx", tx, 0)},
		{"Prev", setting("Prev", prev, append(seqs(), 0)...), setting("Prev", prev, noSeqs()...), setting("Prev", prev, 0)},
		{"Next", setting("Next", next, append(seqs(), 0)...), setting("Next", next, noSeqs()...), setting("Next", next, 0)},
		{"Key", setting("Key", key, keys()...), setting("Key", key, noKeys()...), setting("Key", key, "")},
		{"Old", setting("Old", old, values()...), setting("Old", old, noValues()...), setting("Old", old, api.Value{})},
		{"New", setting("New", now, values()...), setting("New", now, noValues()...), setting("New", now, api.Value{})},
		{"Coord", setting("Coord", coord, upFrom(0, 8)...), setting("Coord", coord, noNodes()...), setting("Coord", coord, 0)},
		{"Members", setting("Members", members, memberLists()...), setting("Members", members, noMemberLists()...), setting("Members", members, nil, []int{})},
		{"Locks", setting("Locks", locks, lockLists()...), setting("Locks", locks, noLockLists()...), setting("Locks", locks, nil, []api.Lock{})},
		{"Rows", setting("Rows", rows, rowLists()...), setting("Rows", rows, noRowLists()...), setting("Rows", rows, nil, []api.Row{})},
		{"Dirty", setting("Dirty", dirty, dirtyLists()...), setting("Dirty", dirty, noDirtyLists()...), setting("Dirty", dirty, nil, []api.Dirty{})},
		{"Deeds", setting("Deeds", deeds, deedLists()...), setting("Deeds", deeds, noDeedLists()...), setting("Deeds", deeds, nil, []api.Deed{})},
		{"Past", setting("Past", past, pastLists()...), setting("Past", past, noPastLists()...), setting("Past", past, nil, []int{})},
	}
}

// kinds are all kinds.
func kinds() []int { return upFrom(firstKind, lastKind) }

// noKinds are what is no kind.
func noKinds() []int { return append(noSeqs(), 0, 11, 12, 127, 128, most) }

// recordOfKind is a valid record of a kind, with something in each of its fields.
func recordOfKind(kind int) api.Rec {
	return plain(only(api.Rec{
		Kind: kind, Tx: 500, Prev: 3, Next: 2, Key: "key", Old: api.Value{Has: true, Data: "old"}, New: api.Value{Has: true, Data: "newer"}, Coord: 6,
		Members: []int{1, 3, 6}, Locks: []api.Lock{{Key: "a"}, {Key: "bc", X: true}, {Key: "d"}},
		Rows:  []api.Row{{Tx: 1, State: api.Active}, rowOf(2), rowOf(70000)},
		Dirty: []api.Dirty{{Page: 0, Rec: 7}, {Page: 63, Rec: 4}}, Deeds: []api.Deed{{Tx: 3}, {Tx: 4, Members: []int{0, 7}}, {Tx: 5, Members: []int{2}}}, Past: []int{1, 2, 128, most},
	}))
}

// hasField tells whether a kind has a field.
func hasField(kind int, f field) bool { return slices.Contains(kindFields(kind), f.name) }

// goodRecords are valid records: of each kind, with each of the values that its fields may have.
func goodRecords() []api.Rec {
	var l []api.Rec
	for _, kind := range kinds() {
		l = append(l, recordOfKind(kind))
		for _, f := range fields() {
			if hasField(kind, f) {
				for _, c := range f.good {
					l = append(l, changed(recordOfKind(kind), c))
				}
			}
		}
	}
	return l
}

// checkpointOf is a checkpoint whose encoding has so many bytes, from 4005 to 4131.
func checkpointOf(long int) api.Rec {
	r := api.Rec{Kind: api.RecCheck, Past: upFrom(1, long-4005)}
	for i := range 4 {
		r.Rows = append(r.Rows, api.Row{Tx: 1 + i, State: api.Active, Locks: lockList(54, 16)})
	}
	r.Rows = append(r.Rows, api.Row{Tx: 5, State: api.Active, Locks: lockList(4, 16)})
	return r
}
