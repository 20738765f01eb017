package rec_test

import (
	"reflect"
	"slices"
	"strconv"
	"strings"

	"troth/api"
)

// What the chapter says of records, written down once more, without the package.

const (
	most      = 1 << 40 // the greatest transaction number, and the greatest LSN
	firstKind = api.RecUpdate
	lastKind  = api.RecForget
)

// only is a record with nothing but the fields that its kind has.
func only(r api.Rec) api.Rec {
	k := api.Rec{Kind: r.Kind}
	switch r.Kind {
	case api.RecUpdate:
		k.Tx, k.Prev, k.Key, k.Old, k.New = r.Tx, r.Prev, r.Key, r.Old, r.New
	case api.RecClr:
		k.Tx, k.Prev, k.Next, k.Key, k.New = r.Tx, r.Prev, r.Next, r.Key, r.New
	case api.RecPrepare:
		k.Tx, k.Prev, k.Coord, k.Members, k.Locks = r.Tx, r.Prev, r.Coord, r.Members, r.Locks
	case api.RecCommit, api.RecAbort, api.RecEnd:
		k.Tx, k.Prev = r.Tx, r.Prev
	case api.RecCheck:
		k.Rows, k.Dirty, k.Deeds, k.Past = r.Rows, r.Dirty, r.Deeds, r.Past
	case api.RecDecide:
		k.Tx, k.Members = r.Tx, r.Members
	case api.RecForget:
		k.Tx = r.Tx
	}
	return k
}

// plain is a record, all lists of which are other ones, and nil if they are empty.
func plain(r api.Rec) api.Rec {
	r.Members, r.Past = copied(r.Members), copied(r.Past)
	r.Locks, r.Rows, r.Dirty, r.Deeds = copied(r.Locks), copied(r.Rows), copied(r.Dirty), copied(r.Deeds)
	for i, row := range r.Rows {
		r.Rows[i].Members, r.Rows[i].Locks = copied(row.Members), copied(row.Locks)
	}
	for i, deed := range r.Deeds {
		r.Deeds[i].Members = copied(deed.Members)
	}
	return r
}

func copied[T any](l []T) []T { return append([]T(nil), l...) }

// same tells whether two records are the same, a nil list being as good as an empty one.
func same(a, b api.Rec) bool { return reflect.DeepEqual(plain(a), plain(b)) }

func in(n, least, greatest int) bool { return least <= n && n <= greatest }

func isTx(n int) bool        { return in(n, 1, most) }
func isLsnOrNone(n int) bool { return in(n, 0, most) }
func isNode(n int) bool      { return in(n, 0, 7) }
func isKey(s string) bool    { return in(len(s), 1, 16) }

func isValue(v api.Value) bool { return in(len(v.Data), 0, 32) && (v.Has || v.Data == "") }

// areValid tells whether a list is not too long, all its elements are valid, and each is less than the next one.
func areValid[T any](l []T, length int, isValid func(T) bool, isLess func(a, b T) bool) bool {
	for i, x := range l {
		if !isValid(x) || i > 0 && !isLess(l[i-1], x) {
			return false
		}
	}
	return len(l) <= length
}

func areMembers(l []int) bool {
	return areValid(l, 8, isNode, func(a, b int) bool { return a < b })
}

func areLocks(l []api.Lock) bool {
	return areValid(l, 64, func(k api.Lock) bool { return isKey(k.Key) }, func(a, b api.Lock) bool { return strings.Compare(a.Key, b.Key) < 0 })
}

func isRow(r api.Row) bool {
	return isTx(r.Tx) && in(r.State, 1, 4) && isLsnOrNone(r.First) && isLsnOrNone(r.Last) && isLsnOrNone(r.Undo) && isNode(r.Coord) && areMembers(r.Members) && areLocks(r.Locks)
}

func isCheckpoint(r api.Rec) bool {
	return areValid(r.Rows, 64, isRow, func(a, b api.Row) bool { return a.Tx < b.Tx }) &&
		areValid(r.Dirty, 64, func(d api.Dirty) bool { return in(d.Page, 0, 63) && in(d.Rec, 1, most) }, func(a, b api.Dirty) bool { return a.Page < b.Page }) &&
		areValid(r.Deeds, 64, func(d api.Deed) bool { return isTx(d.Tx) && areMembers(d.Members) }, func(a, b api.Deed) bool { return a.Tx < b.Tx }) &&
		areValid(r.Past, 256, isTx, func(a, b int) bool { return a < b })
}

// isValid tells whether a record is valid.
func isValid(r api.Rec) bool {
	if !same(r, only(r)) {
		return false
	}
	switch r.Kind {
	case api.RecUpdate:
		return isTx(r.Tx) && isLsnOrNone(r.Prev) && isKey(r.Key) && isValue(r.Old) && isValue(r.New)
	case api.RecClr:
		return isTx(r.Tx) && isLsnOrNone(r.Prev) && isLsnOrNone(r.Next) && isKey(r.Key) && isValue(r.New)
	case api.RecPrepare:
		return isTx(r.Tx) && isLsnOrNone(r.Prev) && isNode(r.Coord) && areMembers(r.Members) && areLocks(r.Locks)
	case api.RecCommit, api.RecAbort, api.RecEnd:
		return isTx(r.Tx) && isLsnOrNone(r.Prev)
	case api.RecBegin:
		return true
	case api.RecCheck:
		return isCheckpoint(r)
	case api.RecDecide:
		return isTx(r.Tx) && areMembers(r.Members)
	case api.RecForget:
		return isTx(r.Tx)
	default:
		return false
	}
}

// digits are numbers' encodings, one behind the other. A negative one is taken as the great one that it is without its sign.
func digits(numbers ...int) []byte {
	var all []byte
	for _, number := range numbers {
		n := uint64(number)
		b := []byte{byte(n % 128)}
		for n /= 128; n > 0; n /= 128 {
			b = append([]byte{byte(n%128) + 128}, b...)
		}
		all = append(all, b...)
	}
	return all
}

func textBytes(s string) []byte { return append(digits(len(s)), s...) }

func flagByte(is bool) byte {
	if is {
		return 1
	}
	return 0
}

func valueBytes(v api.Value) []byte {
	if !v.Has {
		return []byte{0}
	}
	return append([]byte{1}, textBytes(v.Data)...)
}

func listBytes[T any](l []T, element func(T) []byte) []byte {
	b := digits(len(l))
	for _, x := range l {
		b = append(b, element(x)...)
	}
	return b
}

func numBytes(n int) []byte       { return digits(n) }
func lockBytes(k api.Lock) []byte { return append(textBytes(k.Key), flagByte(k.X)) }
func nodesBytes(l []int) []byte   { return listBytes(l, numBytes) }
func dirtyBytes(d api.Dirty) []byte {
	return digits(d.Page, d.Rec)
}
func deedBytes(d api.Deed) []byte { return append(digits(d.Tx), nodesBytes(d.Members)...) }
func rowBytes(r api.Row) []byte {
	return slices.Concat(digits(r.Tx, r.State, r.First, r.Last, r.Undo, r.Coord), nodesBytes(r.Members), listBytes(r.Locks, lockBytes))
}

// bytesOf is a record's encoding, whether or not the record is valid.
func bytesOf(r api.Rec) []byte {
	switch r.Kind {
	case api.RecUpdate:
		return slices.Concat(digits(r.Kind, r.Tx, r.Prev), textBytes(r.Key), valueBytes(r.Old), valueBytes(r.New))
	case api.RecClr:
		return slices.Concat(digits(r.Kind, r.Tx, r.Prev, r.Next), textBytes(r.Key), valueBytes(r.New))
	case api.RecPrepare:
		return slices.Concat(digits(r.Kind, r.Tx, r.Prev, r.Coord), nodesBytes(r.Members), listBytes(r.Locks, lockBytes))
	case api.RecCommit, api.RecAbort, api.RecEnd:
		return digits(r.Kind, r.Tx, r.Prev)
	case api.RecCheck:
		return slices.Concat(digits(r.Kind), listBytes(r.Rows, rowBytes), listBytes(r.Dirty, dirtyBytes), listBytes(r.Deeds, deedBytes), listBytes(r.Past, numBytes))
	case api.RecDecide:
		return slices.Concat(digits(r.Kind, r.Tx), nodesBytes(r.Members))
	case api.RecForget:
		return digits(r.Kind, r.Tx)
	default:
		return digits(r.Kind)
	}
}

// scan goes through bytes, and panics with the first error.
type scan struct{ left []byte }

func (s *scan) next() byte {
	if len(s.left) == 0 {
		panic(api.ErrShort)
	}
	c := s.left[0]
	s.left = s.left[1:]
	return c
}

func (s *scan) num(limit uint64) int {
	c := s.next()
	if c == 128 {
		panic(api.ErrForm)
	}
	n := uint64(c % 128)
	for c >= 128 {
		if len(s.left) > 0 && n >= 1<<57 {
			panic(api.ErrLong)
		}
		c = s.next()
		n = n*128 + uint64(c%128)
	}
	if n > limit {
		panic(api.ErrLong)
	}
	return int(n)
}

func (s *scan) flag() bool {
	c := s.next()
	if c > 1 {
		panic(api.ErrForm)
	}
	return c == 1
}

func (s *scan) text() string {
	var b []byte
	for range s.num(32) {
		b = append(b, s.next())
	}
	return string(b)
}

func (s *scan) seq() int { return s.num(most) }

func (s *scan) value() api.Value {
	if !s.flag() {
		return api.Value{}
	}
	return api.Value{Has: true, Data: s.text()}
}

func listOf[T any](s *scan, element func() T) []T {
	var l []T
	for range s.num(256) {
		l = append(l, element())
	}
	return l
}

func (s *scan) nodes() []int { return listOf(s, s.seq) }

func (s *scan) lock() (k api.Lock) {
	k.Key = s.text()
	k.X = s.flag()
	return k
}

func (s *scan) row() (r api.Row) {
	for _, n := range []*int{&r.Tx, &r.State, &r.First, &r.Last, &r.Undo, &r.Coord} {
		*n = s.seq()
	}
	r.Members = s.nodes()
	r.Locks = listOf(s, s.lock)
	return r
}

func (s *scan) dirty() (d api.Dirty) {
	d.Page = s.seq()
	d.Rec = s.seq()
	return d
}

func (s *scan) deed() (d api.Deed) {
	d.Tx = s.seq()
	d.Members = s.nodes()
	return d
}

func (s *scan) record() (r api.Rec) {
	r.Kind = s.seq()
	if !in(r.Kind, firstKind, lastKind) {
		panic(api.ErrForm)
	}
	if r.Kind != api.RecBegin && r.Kind != api.RecCheck {
		r.Tx = s.seq()
	}
	switch r.Kind {
	case api.RecUpdate:
		r.Prev = s.seq()
		r.Key = s.text()
		r.Old = s.value()
		r.New = s.value()
	case api.RecClr:
		r.Prev = s.seq()
		r.Next = s.seq()
		r.Key = s.text()
		r.New = s.value()
	case api.RecPrepare:
		r.Prev = s.seq()
		r.Coord = s.seq()
		r.Members = s.nodes()
		r.Locks = listOf(s, s.lock)
	case api.RecCommit, api.RecAbort, api.RecEnd:
		r.Prev = s.seq()
	case api.RecCheck:
		r.Rows = listOf(s, s.row)
		r.Dirty = listOf(s, s.dirty)
		r.Deeds = listOf(s, s.deed)
		r.Past = listOf(s, s.seq)
	case api.RecDecide:
		r.Members = s.nodes()
	}
	return r
}

// recordOf is the record of bytes, or the error of decoding them.
func recordOf(b []byte) (r api.Rec, e api.Errno) {
	if len(b) > 4096 {
		return api.Rec{}, api.ErrLong
	}
	defer func() {
		if p := recover(); p != nil {
			r, e = api.Rec{}, p.(api.Errno)
		}
	}()
	s := &scan{left: b}
	r = s.record()
	if len(s.left) > 0 {
		return api.Rec{}, api.ErrRest
	}
	if !isValid(r) {
		return api.Rec{}, api.ErrForm
	}
	return r, api.OK
}

// keyOf is the key with a number, of so many bytes; those of greater numbers are greater.
func keyOf(n, long int) string {
	s := strconv.Itoa(n)
	return strings.Repeat("0", long-len(s)) + s
}

// draw draws numbers without a pattern, always the same ones.
type draw struct{ state uint64 }

func (d *draw) below(n int) int {
	d.state = d.state*6364136223846793005 + 1442695040888963407
	return int(d.state >> 33 % uint64(n))
}

func pick[T any](d *draw, l []T) T { return l[d.below(len(l))] }
