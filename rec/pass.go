package rec

import (
	"cmp"

	"troth/api"
	"troth/seal"
)

// What is decoded at most, even if a valid record has less.
const (
	maxText     = 32
	maxElements = 256
)

// pass goes through the values of a record, one behind the other. Each method passes on a value: the one that it is given, which is encoded, or the one that is decoded instead.
type pass struct {
	to    *seal.Writer // what is encoded goes there; a nil one takes nothing
	from  *seal.Reader // what is decoded comes from there; nil: the record is encoded
	wrong bool         // a value is not as that of a valid record is
}

// expect tells whether all values have been as they should be, this one too.
func (p *pass) expect(holds bool) bool {
	p.wrong = p.wrong || !holds
	return !p.wrong
}

// fields passes on the fields that a record's kind has, in their order: the calls in a literal are made from left to right.
func (p *pass) fields(r api.Rec) api.Rec {
	switch r.Kind {
	case api.RecUpdate:
		return api.Rec{Kind: r.Kind, Tx: p.seq(r.Tx), Prev: p.seqOrNone(r.Prev), Key: p.key(r.Key), Old: p.value(r.Old), New: p.value(r.New)}
	case api.RecClr:
		return api.Rec{Kind: r.Kind, Tx: p.seq(r.Tx), Prev: p.seqOrNone(r.Prev), Next: p.seqOrNone(r.Next), Key: p.key(r.Key), New: p.value(r.New)}
	case api.RecPrepare:
		return api.Rec{Kind: r.Kind, Tx: p.seq(r.Tx), Prev: p.seqOrNone(r.Prev), Coord: p.node(r.Coord), Members: p.members(r.Members), Locks: p.locks(r.Locks)}
	case api.RecCommit:
		fallthrough
	case api.RecAbort:
		fallthrough
	case api.RecEnd:
		return api.Rec{Kind: r.Kind, Tx: p.seq(r.Tx), Prev: p.seqOrNone(r.Prev)}
	case api.RecBegin:
		return api.Rec{Kind: r.Kind}
	case api.RecCheck:
		return api.Rec{Kind: r.Kind, Rows: p.rows(r.Rows), Dirty: p.dirty(r.Dirty), Deeds: p.deeds(r.Deeds), Past: p.past(r.Past)}
	case api.RecDecide:
		return api.Rec{Kind: r.Kind, Tx: p.seq(r.Tx), Members: p.members(r.Members)}
	case api.RecForget:
		return api.Rec{Kind: r.Kind, Tx: p.seq(r.Tx)}
	}
	return api.Rec{}
}

// kind passes on a record's kind.
func (p *pass) kind(n int) int { return p.num(n, api.RecUpdate, api.RecForget) }

// seq passes on a transaction number, or an LSN.
func (p *pass) seq(n int) int { return p.num(n, 1, api.MaxSeq) }

// seqOrNone passes on an LSN, or 0.
func (p *pass) seqOrNone(n int) int { return p.num(n, 0, api.MaxSeq) }

// node passes on a node's number.
func (p *pass) node(n int) int { return p.num(n, 0, api.MaxNodes-1) }

// key passes on a key.
func (p *pass) key(s string) string { return p.text(s, 1, api.MaxKey) }

// value passes on what a key has. Data that it should not have stays behind.
func (p *pass) value(v api.Value) api.Value {
	if !p.flag(v.Has) {
		return api.Value{}
	}
	return api.Value{Has: true, Data: p.text(v.Data, 0, api.MaxValue)}
}

// members passes on nodes.
func (p *pass) members(l []int) []int { return list(p, l, api.MaxNodes, p.node, itself) }

// locks passes on locks.
func (p *pass) locks(l []api.Lock) []api.Lock {
	each := func(k api.Lock) api.Lock { return api.Lock{Key: p.key(k.Key), X: p.flag(k.X)} }
	return list(p, l, api.MaxLocks, each, func(k api.Lock) string { return k.Key })
}

// rows passes on a checkpoint's transactions.
func (p *pass) rows(l []api.Row) []api.Row {
	each := func(r api.Row) api.Row {
		return api.Row{
			Tx: p.seq(r.Tx), State: p.num(r.State, api.Active, api.Aborting),
			First: p.seqOrNone(r.First), Last: p.seqOrNone(r.Last), Undo: p.seqOrNone(r.Undo),
			Coord: p.node(r.Coord), Members: p.members(r.Members), Locks: p.locks(r.Locks),
		}
	}
	return list(p, l, api.MaxTx, each, func(r api.Row) int { return r.Tx })
}

// dirty passes on a checkpoint's dirty pages.
func (p *pass) dirty(l []api.Dirty) []api.Dirty {
	each := func(d api.Dirty) api.Dirty {
		return api.Dirty{Page: p.num(d.Page, 0, api.MaxPages-1), Rec: p.seq(d.Rec)}
	}
	return list(p, l, api.MaxPages, each, func(d api.Dirty) int { return d.Page })
}

// deeds passes on a coordinator's entries.
func (p *pass) deeds(l []api.Deed) []api.Deed {
	each := func(d api.Deed) api.Deed { return api.Deed{Tx: p.seq(d.Tx), Members: p.members(d.Members)} }
	return list(p, l, api.MaxTx, each, func(d api.Deed) int { return d.Tx })
}

// past passes on transactions that were committed.
func (p *pass) past(l []int) []int { return list(p, l, api.MaxPast, p.seq, itself) }

// itself is what a list of numbers rises by.
func itself(n int) int { return n }

// list passes on a list of at most so many elements: how many there are, and then each of them. What an element rises by must be greater than that of the element before it.
func list[T any, K cmp.Ordered](p *pass, l []T, most int, each func(T) T, by func(T) K) []T {
	// No list has more than maxElements, so one that has is wrong, whatever they are.
	n := min(p.count(len(l), most), maxElements)
	if n == 0 {
		return nil
	}
	passed := make([]T, n)
	copy(passed, l)
	for i, element := range passed {
		passed[i] = each(element)
		p.expect(i == 0 || by(passed[i-1]) < by(passed[i]))
	}
	return passed
}

// count passes on how many elements a list has.
func (p *pass) count(n, most int) int {
	if p.from != nil {
		n = p.from.Num(maxElements)
	}
	if p.expect(n <= most) {
		p.to.Num(n)
	}
	return n
}

// num passes on a number from least to most.
func (p *pass) num(n, least, most int) int {
	if p.from != nil {
		n = p.from.Num(api.MaxSeq)
	}
	if p.expect(least <= n && n <= most) {
		p.to.Num(n)
	}
	return n
}

// text passes on a text of least to most bytes.
func (p *pass) text(s string, least, most int) string {
	if p.from != nil {
		s = p.from.Text(maxText)
	}
	if p.expect(least <= len(s) && len(s) <= most) {
		p.to.Text(s)
	}
	return s
}

// flag passes on whether something holds.
func (p *pass) flag(is bool) bool {
	if p.from != nil {
		is = p.from.Flag()
	}
	if !p.wrong {
		p.to.Flag(is)
	}
	return is
}
