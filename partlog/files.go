package partlog

import (
	"strconv"
	"strings"

	"cordwain/api"
	"cordwain/batch"
	"cordwain/disk"
	"cordwain/names"
	"cordwain/producer"
	"cordwain/segment"
)

// The files of a log: its segments (log); the table of producers as it was at the
// active segment's base (snap), for what is ahead of that may go, or be cleaned; a
// segment that is being cleaned (cleaned); and the mark, an empty file whose name
// tells Start and the base of the first segment. A name needs no room, and another
// one takes its place at once: so the beginning of a full log can go, and where the
// power goes on the way to more than one file's end, Open knows what was meant.

const (
	markName   = "/start-"
	markDigits = 20
)

func (l *Log) name(base int, kind string) string {
	name, _ := names.Segment(l.dir, base, kind)
	return name
}

func markOf(dir string, start, first int) string {
	return dir + markName + digits(start) + "-" + digits(first)
}

func digits(n int) string {
	s := strconv.Itoa(n)
	return strings.Repeat("0", markDigits-len(s)) + s
}

// readMark finds the mark among files.
func readMark(files []string, dir string) (mark string, start, first int) {
	for _, name := range files {
		rest, is := strings.CutPrefix(name, dir+markName)
		if !is {
			continue
		}
		one, other, _ := strings.Cut(rest, "-")
		start, _ := strconv.Atoi(one)
		first, _ := strconv.Atoi(other)
		if start >= 0 && first >= 0 && markOf(dir, start, first) == name {
			return name, start, first
		}
	}
	return "", 0, 0
}

// setMark lets the mark tell other numbers.
func (l *Log) setMark(start, first int) api.Errno {
	mark := markOf(l.dir, start, first)
	e := api.OK
	switch l.mark {
	case mark:
	case "":
		e = l.d.Append(mark, nil)
	default:
		e = l.d.Rename(l.mark, mark)
	}
	if e == api.OK {
		l.mark = mark
	}
	return e
}

func removeIfThere(d *disk.Disk, name string) api.Errno {
	if d.Size(name) < 0 {
		return api.OK
	}
	return d.Remove(name)
}

// writeSnap keeps the table for the active segment that is to begin at base. (No
// producer, no file.)
func (l *Log) writeSnap(base int) api.Errno {
	if len(l.table.Known()) == 0 {
		return api.OK
	}
	name := l.name(base, "snap")
	if e := l.d.Append(name, l.table.Encode()); e != api.OK {
		return e
	}
	return l.d.Sync(name)
}

// Open opens one.
func Open(d *disk.Disk, dir string, c api.Config) (*Log, api.Errno) {
	if _, _, ok := names.Part(dir); !ok || d == nil || !May(c) {
		return nil, api.ErrArg
	}
	l := &Log{d: d, dir: dir, c: c}
	files := filesOf(d, dir)
	mark, start, first := readMark(files, dir)
	l.mark = mark
	if e := l.openSegments(files, first); e != api.OK {
		return nil, e
	}
	if e := l.removeOthers(files); e != api.OK {
		return nil, e
	}
	// What is there may not be safe yet, if there was no crash.
	if e := l.active().Flush(); e != api.OK {
		return nil, e
	}
	l.start = max(start, l.segs[0].Base())
	l.flushed = l.End()
	l.readTable()
	return l, api.OK
}

// filesOf is the files that may be a log's, among all.
func filesOf(d *disk.Disk, dir string) []string {
	var files []string
	for _, name := range d.Names() {
		if strings.HasPrefix(name, dir+"/") {
			files = append(files, name)
		}
	}
	return files
}

// openSegments opens those from first on; the ones ahead were about to go.
func (l *Log) openSegments(files []string, first int) api.Errno {
	for base := range names.Bases(files, l.dir, "log") {
		if base < first {
			if e := l.d.Remove(l.name(base, "log")); e != api.OK {
				return e
			}
			continue
		}
		s, e := segment.Open(l.d, l.dir, base, l.c.Index)
		if e != api.OK {
			return e
		}
		l.segs = append(l.segs, s)
	}
	if len(l.segs) > 0 {
		return api.OK
	}
	s, e := segment.Create(l.d, l.dir, 0, l.c.Index)
	l.segs = append(l.segs, s)
	return e
}

// removeOthers removes what an act that did not come to its end left.
func (l *Log) removeOthers(files []string) api.Errno {
	for _, kind := range []string{"cleaned", "snap"} {
		for base := range names.Bases(files, l.dir, kind) {
			if kind == "snap" && base == l.active().Base() {
				continue
			}
			if e := l.d.Remove(l.name(base, kind)); e != api.OK {
				return e
			}
		}
	}
	return api.OK
}

// readTable makes the table of producers: the one that was kept, and the active
// segment's batches; or, if none was kept, all there are.
func (l *Log) readTable() {
	segs := l.segs
	l.table = producer.New()
	p, e := l.d.Read(l.name(l.active().Base(), "snap"))
	if e == api.OK {
		if t, e := producer.Decode(p); e == api.OK {
			l.table = t
			segs = segs[len(segs)-1:]
		}
	}
	for _, s := range segs {
		for b := range s.All() {
			l.table.Add(b)
		}
	}
}

// replace lets a segment's file have other batches.
func (l *Log) replace(i int, batches []api.Batch) api.Errno {
	var p []byte
	for _, b := range batches {
		one, _ := batch.Encode(b)
		p = append(p, one...)
	}
	base := l.segs[i].Base()
	name := l.name(base, "cleaned")
	if e := l.d.Append(name, p); e != api.OK {
		return e
	}
	if e := l.d.Sync(name); e != api.OK {
		return e
	}
	if e := l.d.Rename(name, l.name(base, "log")); e != api.OK {
		return e
	}
	s, e := segment.Open(l.d, l.dir, base, l.c.Index)
	if e == api.OK {
		l.segs[i] = s
	}
	return e
}

// Remove removes all files of a log: for the packages below.
func Remove(d *disk.Disk, dir string) api.Errno {
	for _, name := range d.Names() {
		if of, ok := Owner(name); !ok || of != dir {
			continue
		}
		if e := d.Remove(name); e != api.OK {
			return e
		}
	}
	return d.SyncDir()
}

// Owner is the dir of the log whose file has a name: likewise.
func Owner(name string) (dir string, ok bool) {
	dir, _, _ = strings.Cut(name, "/")
	_, _, isDir := names.Part(dir)
	_, _, _, isSegment := names.Parse(name)
	mark, _, _ := readMark([]string{name}, dir)
	if !isDir || !isSegment && mark == "" {
		return "", false
	}
	return dir, true
}
