package page_test

import (
	"math"
	"math/big"
	"slices"
	"strconv"
	"strings"

	"troth/api"
)

// most is the greatest number that an Lsn may be.
const most = 1 << 40

// lsns are of all kinds, good ones and others.
var lsns = []int{math.MinInt, math.MinInt + 1, -most, -256, -1, 0, 1, 2, 127, 128, 300, 16383, 16384, 1 << 32, most - 1, most, most + 1, 2 * most, math.MaxInt - 1, math.MaxInt}

// digits is the varint of a number.
func digits(n uint64) []byte {
	b := []byte{byte(n % 128)}
	for n /= 128; n > 0; n /= 128 {
		b = append([]byte{byte(128 + n%128)}, b...)
	}
	return b
}

// has and none are values.
func has(data string) api.Value { return api.Value{Has: true, Data: data} }

var none = api.Value{}

// page is one whose cells have these keys, with values of their own.
func page(lsn int, keys ...string) api.Page {
	p := api.Page{Lsn: lsn}
	for i, key := range keys {
		p.Cells = append(p.Cells, api.Cell{Key: key, Val: has("of " + key + strconv.Itoa(i))})
	}
	return p
}

// same tells whether two pages are alike; a nil list is an empty one.
func same(p, q api.Page) bool { return p.Lsn == q.Lsn && slices.Equal(p.Cells, q.Cells) }

// plain is a page that shares no memory with another one.
func plain(p api.Page) api.Page { return api.Page{Lsn: p.Lsn, Cells: slices.Clone(p.Cells)} }

// told is a page for a failure's words.
func told(p api.Page) string {
	var b strings.Builder
	b.WriteString("page with Lsn " + strconv.Itoa(p.Lsn) + ":")
	for _, c := range p.Cells {
		b.WriteString(" " + strconv.Quote(c.Key) + " " + strconv.FormatBool(c.Val.Has) + " " + strconv.Quote(c.Val.Data) + ";")
	}
	return b.String()
}

// mayKey tells whether a key may be one, as the chapter has it.
func mayKey(key string) bool { return len(key) >= 1 && len(key) <= 16 }

// mayValue tells whether a value may be one, as the chapter has it.
func mayValue(v api.Value) bool { return v.Has && len(v.Data) <= 32 || v == none }

// mayLsn tells whether a number may be a page's Lsn, as the chapter has it.
func mayLsn(n int) bool { return n >= 0 && n <= most }

// may tells whether a page is valid, as the chapter has it.
func may(p api.Page) bool {
	good := mayLsn(p.Lsn) && len(p.Cells) < 5
	last := ""
	for _, c := range p.Cells {
		good = good && c.Key > last && mayKey(c.Key) && mayValue(c.Val)
		last = c.Key
	}
	return good
}

// payloadOf is a page's payload, as the chapter has it, also if the page is not valid (a negative Lsn is written as the number of its bits).
func payloadOf(p api.Page) []byte {
	b := append(digits(uint64(p.Lsn)), digits(uint64(len(p.Cells)))...)
	for _, c := range p.Cells {
		b = append(append(b, digits(uint64(len(c.Key)))...), c.Key...)
		if !c.Val.Has {
			b = append(b, 0)
			continue
		}
		b = append(append(append(b, 1), digits(uint64(len(c.Val.Data)))...), c.Val.Data...)
	}
	return b
}

// model reads values, as the chapters of the layers 1 and 3 have it: once something is wrong, it reads nothing any more.
type model struct {
	b   []byte
	err api.Errno
}

// fail notes the first error.
func (m *model) fail(e api.Errno) {
	if m.err == api.OK {
		m.err = e
	}
}

// num is a number of at most so much.
func (m *model) num(most uint64) uint64 {
	n := uint64(0)
	for i := 0; m.err == api.OK; i++ {
		if len(m.b) == i {
			m.fail(api.ErrShort)
		} else if c := m.b[i]; i == 0 && c == 128 {
			m.fail(api.ErrForm)
		} else if n > math.MaxUint64/128 {
			m.fail(api.ErrLong)
		} else if n = n*128 + uint64(c%128); c < 128 {
			if n > most {
				m.fail(api.ErrLong)
				break
			}
			m.b = m.b[i+1:]
			return n
		}
	}
	return 0
}

// text is a text of at most so many bytes.
func (m *model) text(most uint64) string {
	n := m.num(math.MaxUint64)
	if n > most {
		m.fail(api.ErrLong)
	} else if n > uint64(len(m.b)) {
		m.fail(api.ErrShort)
	}
	if m.err != api.OK {
		return ""
	}
	s := string(m.b[:n])
	m.b = m.b[n:]
	return s
}

// flag is a byte 1 or 0.
func (m *model) flag() bool {
	if m.err == api.OK && len(m.b) == 0 {
		m.fail(api.ErrShort)
	} else if m.err == api.OK && m.b[0] > 1 {
		m.fail(api.ErrForm)
	}
	if m.err != api.OK {
		return false
	}
	is := m.b[0] == 1
	m.b = m.b[1:]
	return is
}

// pageOf is what a payload is decoded to, as the chapter has it.
func pageOf(payload []byte) (api.Page, api.Errno) {
	m := model{b: payload}
	p := api.Page{Lsn: int(m.num(most))}
	for range m.num(4) {
		c := api.Cell{Key: m.text(16)}
		if c.Val.Has = m.flag(); c.Val.Has {
			c.Val.Data = m.text(32)
		}
		p.Cells = append(p.Cells, c)
	}
	if m.err == api.OK && !may(p) {
		m.err = api.ErrForm
	}
	if m.err != api.OK {
		return api.Page{}, m.err
	}
	return p, api.OK
}

// got is what Get returns, as the chapter has it.
func got(p api.Page, key string) api.Value {
	for _, c := range p.Cells {
		if c.Key == key {
			return c.Val
		}
	}
	return none
}

// hasCell tells whether a page has a cell of a key.
func hasCell(p api.Page, key string) bool {
	for _, c := range p.Cells {
		if c.Key == key {
			return true
		}
	}
	return false
}

// set is what Set returns, as the chapter has it.
func set(p api.Page, lsn int, key string, v api.Value) (api.Page, api.Errno) {
	if !may(p) || !mayKey(key) || !mayValue(v) || lsn == 0 || !mayLsn(lsn) {
		return api.Page{}, api.ErrArg
	}
	values := map[string]api.Value{}
	for _, c := range p.Cells {
		values[c.Key] = c.Val
	}
	values[key] = v
	if len(values) > 4 {
		return api.Page{}, api.ErrPage
	}
	var keys []string
	for k := range values {
		keys = append(keys, k)
	}
	slices.Sort(keys)
	q := api.Page{Lsn: lsn}
	for _, k := range keys {
		q.Cells = append(q.Cells, api.Cell{Key: k, Val: values[k]})
	}
	return q, api.OK
}

// place is what Place returns, as the chapter of layer 1 has it.
func place(key string, pages int) int {
	if pages < 1 {
		return 0
	}
	n, by := new(big.Int), big.NewInt(int64(pages))
	for i := range len(key) {
		n.Mul(n, big.NewInt(31)).Add(n, big.NewInt(int64(key[i]))).Mod(n, by)
	}
	return int(n.Int64())
}

// values are of all kinds, good ones and others.
func values() []api.Value {
	return []api.Value{none, has(""), has("x"), has("\x00"), has("\xff\x80 \n"), has(strings.Repeat("v", 31)), has(strings.Repeat("v", 32)), has(strings.Repeat("v", 33)), has(strings.Repeat("v", 300)), {Data: "x"}, {Data: "\x00"}, {Data: strings.Repeat("v", 32)}}
}

// keys are of all kinds, good ones and others.
func keys() []string {
	return []string{"", "a", "b", "\x00", "\xff", " ", "\n", "ü☃", "'a", "\xff\xfe\x80", "k" + strings.Repeat("\x00", 14), strings.Repeat("k", 16), strings.Repeat("\xff", 16), strings.Repeat("k", 17), strings.Repeat("k", 200)}
}

// goodPages are valid pages of all kinds.
func goodPages() []api.Page {
	l := []api.Page{
		{}, page(1), page(most), {Cells: []api.Cell{}},
		page(0, "a"), page(7, "m"), page(most, "\x00"), page(9, "\xff"), page(9, strings.Repeat("\xff", 16)),
		page(8, "b", "d"), page(8, "a", "aa"), page(8, "a", "a\x00"), page(8, "Z", "a"), page(8, "\x7f", "\x80"),
		page(9, "b", "d", "f"), page(9, "\x00", "\x00\x00", "\x00\x00\x00"),
		page(10, "b", "d", "f", "h"), page(10, "\x00", "1", "a", "\xff"), page(most, "a", "ab", "abc", "abcd"),
	}
	for i := range 4 {
		p := page(11, "b", "d", "f", "h")
		p.Cells[i].Val = none
		l = append(l, p)
	}
	full := api.Page{Lsn: most}
	for _, c := range "wxyz" {
		full.Cells = append(full.Cells, api.Cell{Key: strings.Repeat(string(c), 16), Val: has(strings.Repeat(string(c), 32))})
	}
	l = append(l, full)
	for _, v := range values() {
		if mayValue(v) {
			l = append(l, api.Page{Lsn: 5, Cells: []api.Cell{{Key: "v", Val: v}}}, api.Page{Lsn: 5, Cells: []api.Cell{{Key: "u", Val: v}, {Key: "v", Val: v}, {Key: "w", Val: v}}})
		}
	}
	return l
}

// badPages are pages that are not valid, of all kinds.
func badPages() []api.Page {
	l := []api.Page{
		page(1, "b", "a"), page(1, "a", "a"), page(1, "b", "d", "c"), page(1, "c", "b", "d"), page(1, "a", "c", "c"), page(1, "a", "a", "c"), page(1, "a", "b", "a"),
		page(1, "aa", "a"), page(1, "a", "Z"), page(1, "\x80", "\x7f"), page(1, "a", "b", "d", "c"), page(1, "a", "b", "c", "c"), page(1, "a", "b", "c", "a"),
		page(1, "a", "b", "c", "d", "e"), page(1, "a", "b", "c", "d", "d"), page(1, "e", "d", "c", "b", "a"), page(1, "a", "a", "a", "a", "a", "a"),
		page(1, ""), page(1, "", "a"), page(1, "a", ""), page(1, "a", "b", "c", ""), page(1, strings.Repeat("k", 17)), page(1, "a", strings.Repeat("k", 17)), page(1, "", "", "", ""),
	}
	for _, n := range lsns {
		if !mayLsn(n) {
			l = append(l, page(n), page(n, "a"), page(n, "a", "b", "c", "d"), page(n, "b", "a"))
		}
	}
	for i := range 4 {
		for _, v := range values() {
			p := page(11, "b", "d", "f", "h")
			p.Cells[i].Val = v
			if !mayValue(v) {
				l = append(l, p)
			}
		}
	}
	return l
}

// draw is a number below n: the numbers of one state are always the same ones.
func draw(state *uint64, n int) int {
	*state = *state*6364136223846793005 + 1442695040888963407
	return int(*state >> 33 % uint64(n))
}
