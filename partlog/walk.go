package partlog

import (
	"cmp"
	"slices"

	"cordwain/api"
	"cordwain/batch"
	"cordwain/clean"
	"cordwain/retain"
	"cordwain/segment"
)

// from is the segments from the one on that may have an offset.
func (l *Log) from(offset int) []*segment.Seg {
	i, found := slices.BinarySearchFunc(l.segs, offset, func(s *segment.Seg, offset int) int {
		return cmp.Compare(s.Base(), offset)
	})
	if !found {
		i--
	}
	return l.segs[max(i, 0):]
}

// there tells whether an offset may be read, or trimmed to.
func (l *Log) there(offset int) bool {
	return offset >= l.start && offset <= l.End()
}

// Read is records from an offset on.
func (l *Log) Read(offset, most int) ([]api.Record, api.Errno) {
	if l.none() {
		return nil, api.ErrOff
	}
	if !l.there(offset) {
		return nil, api.ErrRange
	}
	var out []api.Record
	batches, bytes := 0, 0
read:
	for _, s := range l.from(offset) {
		for b := range s.From(offset) {
			batches++
			bytes += batch.Size(b)
			if batches > 1 && bytes > most {
				break read
			}
			for _, r := range b.Records {
				if r.Offset >= offset {
					out = append(out, r)
				}
			}
		}
	}
	return out, api.OK
}

// From is all of them.
func (l *Log) From(offset int) func(yield func(api.Record) bool) {
	return func(yield func(api.Record) bool) {
		if l.none() {
			return
		}
		first := max(offset, l.start)
		for _, s := range l.from(first) {
			for b := range s.From(first) {
				for _, r := range b.Records {
					if r.Offset >= first && !yield(r) {
						return
					}
				}
			}
		}
	}
}

// FindTime is the first record of a time.
func (l *Log) FindTime(time int) int {
	found := l.End()
	if l.none() {
		return found
	}
find:
	for _, s := range l.from(l.start) {
		first, ok := s.FindTime(time)
		if !ok {
			continue find
		}
		for b := range s.From(max(first, l.start)) {
			for _, r := range b.Records {
				if r.Offset >= l.start && r.Time >= time {
					found = r.Offset
					break find
				}
			}
		}
	}
	return found
}

// Trim lets the beginning go.
func (l *Log) Trim(offset int) api.Errno {
	if l.off() {
		return api.ErrOff
	}
	if !l.there(offset) {
		return api.ErrRange
	}
	start := max(offset, l.start)
	return l.told(l.drop(retain.Trim(l.Segments(), start), start))
}

// Retain lets what is old go.
func (l *Log) Retain(now int) (int, api.Errno) {
	if l.off() {
		return 0, api.ErrOff
	}
	gone := retain.Front(l.Segments(), l.c, now)
	start := max(l.start, l.segs[gone].Base())
	if e := l.told(l.drop(gone, start)); e != api.OK {
		return 0, e
	}
	return gone, api.OK
}

// drop lets the first segments go, and Start be another one. The mark comes ahead
// of all else: Open goes on from there, if the power goes.
func (l *Log) drop(gone, start int) api.Errno {
	if gone == 0 && start == l.start {
		return api.OK
	}
	if start > l.flushed { // or End might be below Start behind a crash
		if e := l.active().Flush(); e != api.OK {
			return e
		}
	}
	if e := l.setMark(start, l.segs[gone].Base()); e != api.OK {
		return e
	}
	l.start = start
	for range gone {
		if e := l.d.Remove(l.name(l.segs[0].Base(), "log")); e != api.OK {
			return e
		}
		l.segs = l.segs[1:]
		l.settled = false
	}
	return l.d.SyncDir()
}

// Clean cleans.
func (l *Log) Clean(now int) (int, api.Errno) {
	if l.off() {
		return 0, api.ErrOff
	}
	if !l.c.Compact || l.settled {
		return 0, api.OK
	}
	before := l.Batches()
	after, upto, gone := clean.All(before, l.dirty, l.c, now)
	if e := l.told(l.replaceAll(before, after)); e != api.OK {
		return 0, e
	}
	// Where nothing more was covered no key was met: so it stays, till there is
	// another segment behind the active one, or one fewer.
	l.settled = upto == l.dirty
	l.dirty = upto
	return gone, api.OK
}

// replaceAll turns those segments that are others now, in order, so that each key
// has its last value wherever this ends.
func (l *Log) replaceAll(before, after [][]api.Batch) api.Errno {
	turned := 0
	for i := range before {
		if slices.EqualFunc(before[i], after[i], batch.Same) {
			continue
		}
		if e := l.replace(i, after[i]); e != api.OK {
			return e
		}
		turned++
	}
	if turned == 0 {
		return api.OK
	}
	return l.d.SyncDir()
}
