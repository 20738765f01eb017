package wal

import (
	"slices"

	"troth/api"
	"troth/master"
	"troth/rec"
	"troth/sheet"
	"troth/stamp"
)

// Append puts a record behind the others.
func (l *Log) Append(r api.Rec, spare int) (int, api.Errno) {
	if e := l.state(); e != api.OK {
		return 0, e
	}
	body, e := rec.Encode(r)
	if e != api.OK {
		return 0, e
	}
	size := l.size + sealedSize(body)
	if l.written()+sheetsFor(size) > l.count-max(spare, 0) {
		return 0, api.ErrLog
	}
	// What waits is written together, so it is known by now where the record will begin.
	l.records = append(l.records, record{recordOf(body), l.next + l.size/api.MaxData})
	l.waiting = append(l.waiting, body)
	l.size = size
	return l.last(), api.OK
}

// Force lets all records last.
func (l *Log) Force() api.Errno {
	if e := l.state(); e != api.OK {
		return e
	}
	if len(l.waiting) == 0 {
		return api.OK
	}
	sheets, e := sheet.Lay(l.master.Inc, l.next, l.waiting)
	if e != api.OK {
		return e
	}
	if e := l.write(sheets); e != api.OK {
		return e
	}
	l.next += len(sheets)
	l.waiting, l.size = nil, 0
	l.forces++
	return api.OK
}

// Mark notes a checkpoint, and lets go what is ahead of a record.
func (l *Log) Mark(check, keep int) api.Errno {
	if e := l.state(); e != api.OK {
		return e
	}
	if !l.isForced(keep) || check != 0 && !l.isForced(check) {
		return api.ErrLsn
	}
	m := l.master
	m.Gen++
	m.Check = check
	m.First = l.records[keep-l.master.Lsn].pos
	gone := slices.IndexFunc(l.records, func(r record) bool { return r.pos == m.First })
	m.Lsn += gone
	if e := l.save(m); e != api.OK {
		return e
	}
	l.records = slices.Delete(l.records, 0, gone)
	return api.OK
}

// Get is a record.
func (l *Log) Get(lsn int) (api.Rec, api.Errno) {
	if e := l.state(); e != api.OK {
		return api.Rec{}, e
	}
	if lsn < l.master.Lsn || lsn > l.last() {
		return api.Rec{}, api.ErrLsn
	}
	return copyOf(l.records[lsn-l.master.Lsn].Rec), api.OK
}

// First is the first record's LSN.
func (l *Log) First() int { return l.number(func() int { return l.master.Lsn }) }

// Last is the last record's LSN.
func (l *Log) Last() int { return l.number(l.last) }

// Forced is the last LSN that was forced.
func (l *Log) Forced() int { return l.number(l.forced) }

// Check is the last checkpoint's LSN.
func (l *Log) Check() int { return l.number(func() int { return l.master.Check }) }

// Used is how many sheets are.
func (l *Log) Used() int { return l.number(l.used) }

// Room is how many sheets aren't used.
func (l *Log) Room() int { return l.number(func() int { return l.count - l.used() }) }

// Forces is how often records were forced.
func (l *Log) Forces() int { return l.number(func() int { return l.forces }) }

// Inc is how often the log was opened.
func (l *Log) Inc() int { return l.number(func() int { return l.master.Inc }) }

// number is a number of a log, or 0 if there is no log, or it is down.
func (l *Log) number(of func() int) int {
	if l.state() != api.OK {
		return 0
	}
	return of()
}

// state tells whether a log may be used.
func (l *Log) state() api.Errno {
	if l == nil {
		return api.ErrNil
	}
	if l.down {
		return api.ErrDown
	}
	return api.OK
}

// note passes on what came of a disk's work. If the disk is down, the log is.
func (l *Log) note(e api.Errno) api.Errno {
	l.down = l.down || e == api.ErrDown
	return e
}

// save saves a master record, which is the log's from then on.
func (l *Log) save(m api.Master) api.Errno {
	if e := l.note(master.Save(l.disk, m)); e != api.OK {
		return e
	}
	l.master = m
	return api.OK
}

// write puts sheets into their sectors, and synchronizes.
func (l *Log) write(sheets []api.Sheet) api.Errno {
	for _, s := range sheets {
		payload, e := sheet.Encode(s)
		if e != api.OK {
			return e
		}
		if e := l.note(stamp.Put(l.disk, sectorOf(s.Pos, l.count), payload)); e != api.OK {
			return e
		}
	}
	return l.note(l.disk.Sync())
}

func (l *Log) last() int { return l.master.Lsn + len(l.records) - 1 }

func (l *Log) forced() int { return l.last() - len(l.waiting) }

// isForced tells whether a record is there, and was forced.
func (l *Log) isForced(lsn int) bool { return l.master.Lsn <= lsn && lsn <= l.forced() }

// written is how many of the used sheets are on the disk.
func (l *Log) written() int { return l.next - l.master.First }

func (l *Log) used() int { return l.written() + sheetsFor(l.size) }

// sheetsFor is how many sheets so many bytes need.
func sheetsFor(size int) int { return (size + api.MaxData - 1) / api.MaxData }

// sealedSize is how many bytes a record's body has in sheets.
func sealedSize(body []byte) int {
	size := 0
	// A body that Encode made can be laid: it is not too long.
	sheets, _ := sheet.Lay(0, 0, [][]byte{body})
	for _, s := range sheets {
		size += len(s.Data)
	}
	return size
}

// copyOf is a valid record in memory of its own.
func copyOf(r api.Rec) api.Rec {
	body, _ := rec.Encode(r)
	return recordOf(body)
}

// recordOf is the record of a body that Encode made, which can be decoded.
func recordOf(body []byte) api.Rec {
	r, _ := rec.Decode(body)
	return r
}
