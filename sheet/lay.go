package sheet

import (
	"troth/api"
	"troth/seal"
)

// Lay puts bodies into sheets.
func Lay(inc, pos int, bodies [][]byte) ([]api.Sheet, api.Errno) {
	if !isSeq(inc) || !isSeq(pos) {
		return nil, api.ErrArg
	}
	all, begins, e := join(bodies)
	if e != api.OK {
		return nil, e
	}
	parts := cut(all)
	if len(parts) > maxSeq-pos+1 {
		return nil, api.ErrFull
	}
	sheets := make([]api.Sheet, len(parts))
	for i, data := range parts {
		sheets[i] = api.Sheet{Inc: inc, Pos: pos + i, First: api.NoFirst, Data: string(data)}
	}
	for _, at := range begins {
		// Only the first of those that begin in a sheet counts.
		if s := &sheets[at/api.MaxData]; s.First == api.NoFirst {
			s.First = at % api.MaxData
		}
	}
	return sheets, api.OK
}

// join is bodies sealed, one behind the other, and where each of them begins.
func join(bodies [][]byte) ([]byte, []int, api.Errno) {
	var all []byte
	var begins []int
	for _, body := range bodies {
		sealed, e := seal.Seal(body)
		if e != api.OK {
			return nil, nil, e
		}
		begins = append(begins, len(all))
		all = append(all, sealed...)
	}
	return all, begins, api.OK
}

// cut is the parts that bytes are cut into, each of which is the Data of a sheet.
func cut(all []byte) [][]byte {
	var parts [][]byte
	for from := 0; from < len(all); from += api.MaxData {
		parts = append(parts, part(all, from, min(from+api.MaxData, len(all))))
	}
	return parts
}
