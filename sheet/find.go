package sheet

import (
	"troth/api"
	"troth/seal"
)

// search goes through sheets, one behind the other.
type search struct {
	found []api.Found
	begun []byte // what there is of the body that is incomplete; no bytes if none is
	sheet int    // in which it begins
}

// Find is the bodies of sheets.
func Find(l []api.Sheet) []api.Found {
	var f search
	for i, s := range l {
		data, first := []byte(s.Data), len(s.Data)
		if hasFirst(s) {
			first = s.First
		}
		if !f.head(part(data, 0, first)) {
			break
		}
		if hasFirst(s) && !f.bodies(part(data, first, len(data)), i) {
			break
		}
	}
	return f.found
}

// head takes the head of a sheet behind the body that is incomplete, if one is, and tells whether anything may be found from here on.
func (f *search) head(b []byte) bool {
	if len(f.begun) == 0 {
		return true
	}
	f.begun = append(f.begun, b...)
	body, used, e := seal.Open(f.begun)
	if e == api.ErrShort {
		return true
	}
	if e != api.OK || used < len(f.begun) {
		return false
	}
	f.found = append(f.found, api.Found{Body: string(body), Sheet: f.sheet})
	f.begun = nil
	return true
}

// bodies opens the bodies of which a sheet has at least the beginning, and tells whether anything may be found behind them. A body that was incomplete ahead of them is given up.
func (f *search) bodies(b []byte, sheet int) bool {
	f.begun, f.sheet = nil, sheet
open:
	for len(b) > 0 {
		body, used, e := seal.Open(b)
		switch e {
		case api.OK:
			f.found = append(f.found, api.Found{Body: string(body), Sheet: sheet})
			b = part(b, used, len(b))
		case api.ErrShort:
			f.begun = b
			break open
		default:
			return false
		}
	}
	return true
}
