package partlog_test

import (
	"fmt"
	"slices"
	"testing"

	"cordwain/api"
	"cordwain/batch"
	"cordwain/clean"
	"cordwain/disk"
	"cordwain/partlog"
	"cordwain/producer"
	"cordwain/retain"
)

// model is a log as the chapter tells it, without a disk.
type model struct {
	c       api.Config
	bases   []int
	segs    [][]api.Batch
	start   int
	end     int
	flushed int
	dirty   int
	table   *producer.Table
}

func newModel(c api.Config) *model {
	return &model{c: c, bases: []int{0}, segs: [][]api.Batch{nil}, table: producer.New()}
}

func (m *model) copy() *model {
	other := *m
	other.bases = slices.Clone(m.bases)
	other.segs = slices.Clone(m.segs)
	for i := range other.segs {
		other.segs[i] = slices.Clone(m.segs[i])
	}
	other.table = m.table.Copy()
	return &other
}

func (m *model) infos() []retain.Info {
	l := make([]retain.Info, len(m.segs))
	for i, batches := range m.segs {
		x := retain.Info{Base: m.bases[i], Next: m.end}
		if i+1 < len(m.bases) {
			x.Next = m.bases[i+1]
		}
		for j, b := range batches {
			first, most := batch.Times(b)
			if j == 0 {
				x.First = first
			}
			x.Most = max(x.Most, most)
			x.Bytes += batch.Size(b)
		}
		l[i] = x
	}
	return l
}

func (m *model) append(b api.Batch, now int) (int, api.Errno) {
	if len(b.Records) == 0 || now < 0 || now > api.MaxTime {
		return 0, api.ErrArg
	}
	base, dup, e := m.table.Check(b)
	if dup || e != api.OK {
		return base, e
	}
	b.Base, b.Last = m.end, m.end+len(b.Records)-1
	b.Records = slices.Clone(b.Records)
	for i := range b.Records {
		b.Records[i].Offset = m.end + i
	}
	if e := batch.Check(b); e != api.OK {
		return 0, e
	}
	if batch.Size(b) > m.c.SegBytes {
		return 0, api.ErrBig
	}
	if infos := m.infos(); retain.Rolls(infos[len(infos)-1], m.c, now, batch.Size(b)) {
		m.flushed = m.end
		m.bases = append(m.bases, m.end)
		m.segs = append(m.segs, nil)
	}
	i := len(m.segs) - 1
	m.segs[i] = append(m.segs[i], b)
	m.table.Add(b)
	m.end = b.Last + 1
	if m.c.Flush {
		m.flushed = m.end
	}
	return b.Base, api.OK
}

func (m *model) drop(n int) {
	m.bases = m.bases[n:]
	m.segs = m.segs[n:]
}

func (m *model) trim(offset int) api.Errno {
	if offset < m.start || offset > m.end {
		return api.ErrRange
	}
	m.start = offset
	m.drop(retain.Trim(m.infos(), m.start))
	return api.OK
}

func (m *model) retain(now int) int {
	n := retain.Front(m.infos(), m.c, now)
	m.drop(n)
	m.start = max(m.start, m.bases[0])
	return n
}

func (m *model) clean(now int) int {
	if !m.c.Compact {
		return 0
	}
	out, upto, gone := clean.All(m.segs, m.dirty, m.c, now)
	m.segs, m.dirty = out, upto
	return gone
}

func (m *model) flat() (l []api.Batch) {
	for _, batches := range m.segs {
		l = append(l, batches...)
	}
	return l
}

// step is something that is done to a log, and to its model.
type step struct {
	kind string
	b    api.Batch
	n    int
}

func (s step) onModel(m *model) (int, api.Errno) {
	switch s.kind {
	case "append":
		return m.append(s.b, s.n)
	case "trim":
		return 0, m.trim(s.n)
	case "retain":
		return m.retain(s.n), api.OK
	case "clean":
		return m.clean(s.n), api.OK
	}
	m.flushed = m.end
	return 0, api.OK
}

func (s step) onLog(l *partlog.Log) (int, api.Errno) {
	switch s.kind {
	case "append":
		return l.Append(s.b, s.n)
	case "trim":
		return 0, l.Trim(s.n)
	case "retain":
		return l.Retain(s.n)
	case "clean":
		return l.Clean(s.n)
	}
	return 0, l.Flush()
}

func sameSegments(a, b [][]api.Batch) bool {
	return slices.EqualFunc(a, b, func(x, y []api.Batch) bool { return slices.EqualFunc(x, y, batch.Same) })
}

// agree compares all that a log shows with its model.
func agree(t *testing.T, what string, l *partlog.Log, m *model) {
	t.Helper()
	if l.Start() != m.start || l.End() != m.end || l.Flushed() != m.flushed || l.Dead() {
		t.Fatalf("%s: Start %d, End %d, Flushed %d, not %d, %d, %d", what, l.Start(), l.End(), l.Flushed(), m.start, m.end, m.flushed)
	}
	if got, want := l.Segments(), m.infos(); !slices.Equal(got, want) {
		t.Fatalf("%s: Segments %v, not %v", what, got, want)
	}
	if got := l.Batches(); !sameSegments(got, m.segs) {
		t.Fatalf("%s: Batches %v, not %v", what, got, m.segs)
	}
	if !producer.Same(l.Producers(), m.table) {
		t.Fatalf("%s: Producers are others", what)
	}
	reads(t, what, l, m)
}

// reads compares the reads of a log with what its model reckons.
func reads(t *testing.T, what string, l *partlog.Log, m *model) {
	t.Helper()
	all := m.flat()
	for offset := m.start - 1; offset <= m.end+1; offset += 1 + (m.end-m.start)/15 {
		for _, most := range []int{-1, 0, 100, 300, 1 << 20} {
			got, e := l.Read(offset, most)
			if offset < m.start || offset > m.end {
				if got != nil || e != api.ErrRange {
					t.Fatalf("%s: Read(%d) is %v, %d", what, offset, got, e)
				}
				continue
			}
			if want := readOf(all, offset, most); !sameRecords(got, want) || e != api.OK {
				t.Fatalf("%s: Read(%d, %d) is %v, %d, not %v", what, offset, most, got, e, want)
			}
		}
		if got, want := slices.Collect(l.From(offset)), recordsFrom(all, max(offset, m.start)); !sameRecords(got, want) {
			t.Fatalf("%s: From(%d) is %v, not %v", what, offset, got, want)
		}
	}
	for _, time := range []int{-1, 0, 7, 20, 50, 90, 1000, 1 << 60} {
		want := m.end
		for _, r := range recordsFrom(all, m.start) {
			if r.Time >= time {
				want = r.Offset
				break
			}
		}
		if got := l.FindTime(time); got != want {
			t.Fatalf("%s: FindTime(%d) is %d, not %d", what, time, got, want)
		}
	}
}

func recordsFrom(l []api.Batch, offset int) (out []api.Record) {
	for _, b := range l {
		for _, r := range b.Records {
			if r.Offset >= offset {
				out = append(out, r)
			}
		}
	}
	return out
}

func readOf(l []api.Batch, offset, most int) []api.Record {
	var some []api.Batch
	bytes := 0
	for _, b := range l {
		if b.Last < offset {
			continue
		}
		bytes += batch.Size(b)
		if len(some) > 0 && bytes > most {
			break
		}
		some = append(some, b)
	}
	return recordsFrom(some, offset)
}

func sameRecords(a, b []api.Record) bool {
	return slices.EqualFunc(a, b, func(x, y api.Record) bool { return fmt.Sprint(x) == fmt.Sprint(y) })
}

func fresh(t *testing.T, room int) *disk.Disk {
	t.Helper()
	d, e := disk.New(room)
	if e != api.OK {
		t.Fatal(e)
	}
	return d
}

func opened(t *testing.T, d *disk.Disk, c api.Config) *partlog.Log {
	t.Helper()
	l, e := partlog.Open(d, "a-0", c)
	if e != api.OK || l == nil {
		t.Fatalf("Open is %d", e)
	}
	return l
}

// config is one that may be, with small segments.
func config() api.Config {
	return api.Config{SegBytes: 300, Index: 100, MapMost: 100, Grace: 10}
}

// rec is a record at a time; with a key, unless that is empty, and a value, unless that is.
func rec(time int, key, value string) api.Record {
	return api.Record{Time: time, HasKey: key != "", Key: []byte(key), HasValue: value != "", Value: []byte(value)}
}
