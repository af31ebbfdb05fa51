package partlog_test

import (
	"fmt"
	"math"
	"slices"
	"strings"
	"testing"

	"cordwain/api"
	"cordwain/batch"
	"cordwain/disk"
	"cordwain/fold"
	"cordwain/names"
	"cordwain/partlog"
	"cordwain/producer"
	"cordwain/segment"
)

// of is a batch with so many records, of a producer, or of none.
func of(id, epoch, seq, count int) api.Batch {
	b := api.Batch{Base: 77, Last: 5, Producer: id, Epoch: epoch, Seq: seq}
	for i := range count {
		b.Records = append(b.Records, rec(i, "", "value"))
	}
	return b
}

// plain is a batch with so many records.
func plain(count int) api.Batch { return of(0, 0, 0, count) }

func done(t *testing.T, l *partlog.Log, b api.Batch, now int) int {
	t.Helper()
	base, e := l.Append(b, now)
	if e != api.OK {
		t.Fatalf("Append is %d", e)
	}
	return base
}

func TestMay(t *testing.T) { // P15.1
	for i, c := range []api.Config{
		config(), {SegBytes: 100, Index: 1, MapMost: 1},
		{SegBytes: 1 << 30, SegAge: 1 << 50, Index: 1 << 20, KeepBytes: 1 << 50, KeepAge: 1 << 50, Compact: true, Grace: 1 << 50, MapMost: 1000000, Flush: true},
	} {
		if !partlog.May(c) {
			t.Errorf("config %d may not be", i)
		}
	}
	for i, turn := range []func(c *api.Config){
		func(c *api.Config) { c.SegBytes = 99 }, func(c *api.Config) { c.SegBytes = 1<<30 + 1 },
		func(c *api.Config) { c.SegAge = -1 }, func(c *api.Config) { c.SegAge = 1<<50 + 1 },
		func(c *api.Config) { c.KeepBytes = -1 }, func(c *api.Config) { c.KeepBytes = 1<<50 + 1 },
		func(c *api.Config) { c.KeepAge = -1 }, func(c *api.Config) { c.KeepAge = 1<<50 + 1 },
		func(c *api.Config) { c.Grace = -1 }, func(c *api.Config) { c.Grace = 1<<50 + 1 },
		func(c *api.Config) { c.Index = 0 }, func(c *api.Config) { c.Index = 1<<20 + 1 },
		func(c *api.Config) { c.MapMost = 0 }, func(c *api.Config) { c.MapMost = 1000001 },
		func(c *api.Config) { *c = api.Config{} },
	} {
		c := config()
		turn(&c)
		if partlog.May(c) {
			t.Errorf("config %d may be", i)
		}
		if l, e := partlog.Open(fresh(t, 100), "a-0", c); l != nil || e != api.ErrArg {
			t.Errorf("Open with config %d is %d", i, e)
		}
	}
}

func TestOpenRefuses(t *testing.T) { // P15.1
	d := fresh(t, 1000)
	if l, e := partlog.Open(nil, "a-0", config()); l != nil || e != api.ErrArg {
		t.Errorf("Open of no disk is %d", e)
	}
	for _, dir := range []string{"", "a", "a-", "a-00", "a-1000", "A-0", "a-0/"} {
		if l, e := partlog.Open(d, dir, config()); l != nil || e != api.ErrArg {
			t.Errorf("Open of %q is %d", dir, e)
		}
	}
}

func TestNewLog(t *testing.T) { // P15.1
	l := opened(t, fresh(t, 1000), config())
	agree(t, "new", l, newModel(config()))
	if records, e := l.Read(0, 100); len(records) != 0 || e != api.OK {
		t.Errorf("Read(0) is %v, %d", records, e)
	}
	for what, e := range map[string]api.Errno{"Trim(0)": l.Trim(0), "Flush": l.Flush()} {
		if e != api.OK {
			t.Errorf("%s is %d", what, e)
		}
	}
	if l.Trim(1) != api.ErrRange || l.Trim(-1) != api.ErrRange {
		t.Error("Trim beyond")
	}
}

func TestReadShowsWholeBatches(t *testing.T) { // P15.3
	l := opened(t, fresh(t, 1<<20), config())
	done(t, l, plain(2), 0)
	done(t, l, plain(2), 0)
	offsets := func(offset, most int) (out []int) {
		records, e := l.Read(offset, most)
		if e != api.OK {
			t.Fatal(e)
		}
		for _, r := range records {
			out = append(out, r.Offset)
		}
		return out
	}
	size := batch.Size(l.Batches()[0][0])
	for _, c := range []struct {
		offset, most int
		want         []int
	}{
		{1, 0, []int{1}}, {0, 0, []int{0, 1}}, {0, 2*size - 1, []int{0, 1}}, {0, 2 * size, []int{0, 1, 2, 3}}, {1, 2 * size, []int{1, 2, 3}}, {2, 0, []int{2, 3}}, {3, math.MaxInt, []int{3}}, {0, math.MinInt, []int{0, 1}}, {4, 100, nil},
	} {
		if got := offsets(c.offset, c.most); !slices.Equal(got, c.want) {
			t.Errorf("Read(%d, %d) has %v, not %v", c.offset, c.most, got, c.want)
		}
	}
	for _, offset := range []int{-1, 5, math.MinInt, math.MaxInt} {
		if records, e := l.Read(offset, 100); records != nil || e != api.ErrRange {
			t.Errorf("Read(%d) is %v, %d", offset, records, e)
		}
	}
}

func TestAppendRefuses(t *testing.T) { // P15.2
	c := config()
	c.SegBytes = 1 << 20
	d := fresh(t, 1<<21)
	l, m := opened(t, d, c), newModel(c)
	for _, b := range []api.Batch{of(7, 2, 0, 3), of(7, 2, 3, 2)} {
		done(t, l, b, 0)
		m.append(b, 0)
	}
	if e := l.Flush(); e != api.OK {
		t.Fatal(e)
	}
	m.flushed = m.end
	bad := func(turn func(r *api.Record)) api.Batch {
		b := of(7, 2, 5, 3)
		turn(&b.Records[1])
		return b
	}
	long := api.Batch{}
	for range 100 {
		long.Records = append(long.Records, rec(0, "k", strings.Repeat("v", 1000)))
	}
	for _, x := range []struct {
		what string
		b    api.Batch
		now  int
		want api.Errno
	}{
		{"no records", api.Batch{}, 0, api.ErrArg},
		{"no records of a producer", of(7, 2, 5, 0), 0, api.ErrArg},
		{"now below 0", plain(1), -1, api.ErrArg},
		{"now above", plain(1), 1<<50 + 1, api.ErrArg},
		{"a Time below 0", bad(func(r *api.Record) { r.Time = -1 }), 0, api.ErrArg},
		{"a Time above, and a gap", func() api.Batch { b := of(7, 2, 9, 1); b.Records[0].Time = 1<<50 + 1; return b }(), 0, api.ErrArg},
		{"a gap", of(7, 2, 6, 1), 0, api.ErrSeq},
		{"a gap, of too many", of(7, 2, 6, 101), 0, api.ErrSeq},
		{"a part of what came", of(7, 2, 0, 2), 0, api.ErrDup},
		{"an epoch that is over", of(7, 1, 5, 1), 0, api.ErrEpoch},
		{"a producer below 0", of(-1, 0, 0, 1), 0, api.ErrArg},
		{"a producer above", of(1<<40+1, 0, 0, 1), 0, api.ErrArg},
		{"an epoch above", of(8, 32768, 0, 1), 0, api.ErrArg},
		{"an epoch of no producer", of(0, 1, 0, 1), 0, api.ErrArg},
		{"too many records", plain(101), 0, api.ErrBig},
		{"a Key without HasKey", bad(func(r *api.Record) { r.Key = []byte("k") }), 0, api.ErrArg},
		{"a Value without HasValue", bad(func(r *api.Record) { r.HasValue = false }), 0, api.ErrArg},
		{"a long Value", bad(func(r *api.Record) { r.Value = make([]byte, 2001) }), 0, api.ErrBig},
		{"too many bytes", long, 0, api.ErrBig},
	} {
		if base, e := l.Append(x.b, x.now); base != 0 || e != x.want {
			t.Errorf("%s: %d, %d, not %d", x.what, base, e, x.want)
		}
		agree(t, x.what, l, m)
	}
	if got := done(t, l, of(7, 2, 0, 3), 0); got != 0 {
		t.Errorf("one that came is at %d", got)
	}
	if got := done(t, l, of(7, 2, 3, 2), 0); got != 3 {
		t.Errorf("one that came is at %d", got)
	}
	agree(t, "behind ones that came", l, m)
	done(t, l, plain(1), 1<<50)
	done(t, l, api.Batch{Records: []api.Record{rec(1<<50, "k", "v"), rec(0, "k", "v")}}, 0)
}

func TestAppendOfABatchThatNoSegmentHolds(t *testing.T) { // P15.2
	c := config()
	c.SegBytes = 100
	l := opened(t, fresh(t, 1<<20), c)
	fits := api.Batch{Records: []api.Record{rec(0, "", strings.Repeat("v", 45))}}
	if base, e := l.Append(fits, 0); base != 0 || e != api.OK || l.Segments()[0].Bytes != 100 {
		t.Errorf("just room: %d, %d", base, e)
	}
	fits.Records[0].Value = append(fits.Records[0].Value, 'v')
	if base, e := l.Append(fits, 0); base != 0 || e != api.ErrBig || len(l.Segments()) != 1 {
		t.Errorf("a byte more: %d, %d", base, e)
	}
}

func TestAppendAtTheEndOfOffsets(t *testing.T) { // P15.2
	d := fresh(t, 1<<20)
	s, e := segment.Create(d, "a-0", 1<<62-9, 100)
	if e != api.OK || s.Append(api.Batch{Base: 1<<62 - 9, Last: 1<<62 - 4}) != api.OK {
		t.Fatal("the segment is not made")
	}
	l := opened(t, d, config())
	if l.Start() != 1<<62-9 || l.End() != 1<<62-3 {
		t.Fatalf("Start %d, End %d", l.Start(), l.End())
	}
	for _, b := range []api.Batch{plain(4), plain(101)} {
		if base, e := l.Append(b, 0); base != 0 || e != api.ErrOver {
			t.Errorf("Append beyond is %d, %d", base, e)
		}
	}
	if base := done(t, l, plain(3), 0); base != 1<<62-3 || l.End() != 1<<62 {
		t.Errorf("the last ones are at %d", base)
	}
	if base, e := l.Append(plain(1), 0); base != 0 || e != api.ErrOver {
		t.Errorf("Append at the end is %d, %d", base, e)
	}
	if base, e := l.Append(of(1, 0, 1, 1), 0); base != 0 || e != api.ErrSeq {
		t.Errorf("Append of a gap at the end is %d, %d", base, e)
	}
}

func TestRolls(t *testing.T) { // P15.2
	c := config()
	c.SegBytes, c.SegAge = 200, 10
	l, m := opened(t, fresh(t, 1<<20), c), newModel(c)
	for i, now := range []int{0, 0, 0, 5, 10, 11, 12, 30} {
		b := plain(1 + i%3)
		b.Records[0].Time = now
		done(t, l, b, now)
		m.append(b, now)
		agree(t, "rolled", l, m)
	}
	if n := len(l.Segments()); n != 5 {
		t.Errorf("%d segments", n)
	}
}

func TestFlushedIsUpToWhereAllIsSafe(t *testing.T) { // P15.2, P15.4
	d := fresh(t, 1<<20)
	l := opened(t, d, config())
	done(t, l, plain(2), 0)
	if l.Flushed() != 0 || opened(t, d.Crash(), config()).End() != 0 {
		t.Error("flushed unasked")
	}
	if e := l.Flush(); e != api.OK || l.Flushed() != 2 || opened(t, d.Crash(), config()).End() != 2 {
		t.Errorf("Flush is %d", e)
	}
	for len(l.Segments()) == 1 {
		done(t, l, plain(2), 0)
	}
	rolled := l.Segments()[1].Base
	if l.Flushed() != rolled || opened(t, d.Crash(), config()).End() != rolled {
		t.Errorf("Flushed is %d behind a roll at %d", l.Flushed(), rolled)
	}
	if e := l.Trim(l.End()); e != api.OK || l.Flushed() != rolled {
		t.Errorf("Trim is %d, Flushed %d", e, l.Flushed())
	}
	c := config()
	c.Flush = true
	d = fresh(t, 1<<20)
	l = opened(t, d, c)
	done(t, l, plain(3), 0)
	if l.Flushed() != 3 || opened(t, d.Crash(), c).End() != 3 {
		t.Error("not flushed, though each append is")
	}
}

func TestWithoutRoom(t *testing.T) { // P15.2, P15.4
	for room := range 700 {
		c := config()
		c.SegBytes, c.Compact, c.Flush = 150, true, room%2 == 0
		d := fresh(t, room)
		l, m := opened(t, d, c), newModel(c)
		full := false
		for i := range 12 {
			b := api.Batch{Producer: 5, Seq: i, Records: []api.Record{rec(i, "k", "value")}}
			base, e := l.Append(b, i)
			switch {
			case e == api.ErrFull:
				full = true
				if l.End() != m.end || !slices.EqualFunc(slices.Concat(l.Batches()...), m.flat(), batch.Same) || !producer.Same(l.Producers(), m.table) {
					t.Fatalf("room %d: something is appended, though refused", room)
				}
				reads(t, "without room", l, m)
			case e != api.OK || base != i || full && room < 60:
				t.Fatalf("room %d: Append is %d, %d", room, base, e)
			default:
				if _, e := m.append(b, i); e != api.OK {
					t.Fatal(e)
				}
			}
			if full {
				break
			}
		}
		if !full {
			continue
		}
		if e := l.Flush(); e != api.OK {
			t.Fatal(e)
		}
		same(t, "opened without room", opened(t, d, c), l)
		l = opened(t, d, c)
		want := fold.Batches(slices.Concat(l.Batches()...))
		if _, e := l.Clean(100); e != api.OK && e != api.ErrFull || l.Dead() {
			t.Fatalf("room %d: Clean is %d", room, e)
		}
		if !fold.Same(fold.Batches(slices.Concat(l.Batches()...)), want) {
			t.Fatalf("room %d: what is cleaned says something else", room)
		}
		same(t, "opened again", opened(t, d, c), l)
		if e := l.Trim(l.End()); e != api.OK || l.Start() != l.End() {
			t.Fatalf("room %d: Trim of a full one is %d", room, e)
		}
	}
}

func TestRetainFreesAFullDisk(t *testing.T) { // P15.4
	c := config()
	c.SegBytes, c.KeepBytes = 120, 130
	d := fresh(t, 1000)
	l := opened(t, d, c)
	for {
		if _, e := l.Append(plain(1), 0); e == api.ErrFull {
			break
		}
	}
	end := l.End()
	if _, e := l.Append(plain(1), 0); e != api.ErrFull {
		t.Fatalf("Append to a full disk is %d", e)
	}
	if n, e := l.Retain(0); n == 0 || e != api.OK {
		t.Fatalf("Retain on a full disk is %d, %d", n, e)
	}
	if base := done(t, l, plain(1), 0); base != end {
		t.Errorf("appended at %d, not %d", base, end)
	}
}

func TestWithoutPower(t *testing.T) { // P15.2, P15.4
	c := config()
	c.Compact, c.KeepBytes = true, 100
	for what, act := range map[string]func(l *partlog.Log) api.Errno{
		"Append": func(l *partlog.Log) api.Errno { _, e := l.Append(plain(1), 0); return e },
		"Trim":   func(l *partlog.Log) api.Errno { return l.Trim(l.End()) },
		"Retain": func(l *partlog.Log) api.Errno { _, e := l.Retain(0); return e },
		"Clean":  func(l *partlog.Log) api.Errno { _, e := l.Clean(0); return e },
		"Flush":  func(l *partlog.Log) api.Errno { return l.Flush() },
	} {
		d := fresh(t, 1<<20)
		l := opened(t, d, c)
		for i := range 9 {
			done(t, l, api.Batch{Records: []api.Record{rec(i, "k", "v"), rec(i, "", "x")}}, 0)
		}
		d.Cut(0)
		if l.Dead() {
			t.Errorf("%s: dead ahead of it", what)
		}
		end, flushed := l.End(), l.Flushed()
		if e := act(l); e != api.ErrOff || !l.Dead() {
			t.Errorf("%s is %d, Dead %v", what, e, l.Dead())
		}
		if l.End() != end || l.Flushed() != flushed || len(slices.Concat(l.Batches()...)) != 9 {
			t.Errorf("%s: End %d, Flushed %d", what, l.End(), l.Flushed())
		}
		if _, e := l.Append(plain(0), 0); e != api.ErrArg {
			t.Errorf("Append of nothing on a dead log is %d", e)
		}
		_, a := l.Append(of(7, 0, 9, 1), 0)
		_, b := l.Retain(0)
		_, x := l.Clean(0)
		for i, e := range []api.Errno{a, l.Trim(-1), l.Trim(0), b, x, l.Flush()} {
			if e != api.ErrOff {
				t.Errorf("act %d on a dead log is %d", i, e)
			}
		}
		if records, e := l.Read(0, 1<<20); len(records) != 18 || e != api.OK {
			t.Errorf("Read of a dead log is %d records, %d", len(records), e)
		}
	}
	plainly := opened(t, fresh(t, 100), config())
	if n, e := plainly.Clean(math.MaxInt); n != 0 || e != api.OK {
		t.Errorf("Clean without Compact is %d, %d", n, e)
	}
}

func TestNothingIsSeenThatWasNotFlushed(t *testing.T) { // P15.2
	c := config()
	c.Flush = true
	for cut := range 4 {
		d := fresh(t, 1<<20)
		l, m := opened(t, d, c), newModel(c)
		done(t, l, of(5, 0, 0, 2), 0)
		m.append(of(5, 0, 0, 2), 0)
		d.Cut(cut)
		base, e := l.Append(of(5, 0, 2, 1), 0)
		if cut == 3 {
			if base != 2 || e != api.OK {
				t.Errorf("Append is %d, %d", base, e)
			}
			continue
		}
		if base != 0 || e != api.ErrOff || !l.Dead() || l.End() != 2 || l.Flushed() != 2 || !sameSegments(l.Batches(), m.segs) || !producer.Same(l.Producers(), m.table) {
			t.Errorf("cut %d: Append is %d, %d; End %d", cut, base, e, l.End())
		}
		reads(t, "cut off", l, m)
	}
}

func TestTrim(t *testing.T) { // P15.4
	c := config()
	c.SegBytes = 150
	d := fresh(t, 1<<20)
	l, m := opened(t, d, c), newModel(c)
	for range 6 {
		done(t, l, plain(3), 0)
		m.append(plain(3), 0)
	}
	for _, offset := range []int{0, 4, 2, 5, 9, 9, 13, 18, 19, -1} {
		got, want := l.Trim(offset), m.trim(offset)
		if got != want {
			t.Errorf("Trim(%d) is %d, not %d", offset, got, want)
		}
		agree(t, "trimmed", l, m)
		m2 := m.copy()
		m2.flushed = m.end
		agree(t, "trimmed, behind a crash", opened(t, d.Crash(-1, -1, -1), c), m2)
		if got := opened(t, d.Crash(), c); got.Start() != m.start {
			t.Errorf("Trim(%d) is not safe: Start is %d", offset, got.Start())
		}
	}
	done(t, l, plain(3), 0)
	m.append(plain(3), 0)
	agree(t, "a segment behind Start, that has one behind it only now", l, m)
	kept := m.copy()
	if e := l.Flush(); e != api.OK {
		t.Fatal(e)
	}
	kept.flushed = kept.end
	again := opened(t, d.Crash(), c)
	agree(t, "opened with it", again, kept)
	if a, b := again.Trim(again.Start()), kept.trim(kept.start); a != b || len(kept.segs) >= len(m.segs) {
		t.Errorf("Trim to Start is %d, not %d", a, b)
	}
	agree(t, "it goes without a new Start", again, kept)
	if e := l.Flush(); e != api.OK {
		t.Fatal(e)
	}
	m.flushed = m.end
	agree(t, "opened again", opened(t, d, c), m)
}

func TestFilesAreGoneBehindTrimAndRetain(t *testing.T) { // P15.4
	c := config()
	c.SegBytes, c.KeepAge, c.Flush = 150, 10, true
	d := fresh(t, 1<<20)
	l := opened(t, d, c)
	for i := range 8 {
		done(t, l, of(3, 0, 3*i, 3), 0)
	}
	logs := func() []int { return slices.Collect(names.Bases(d.Crash().Names(), "a-0", "log")) }
	if n := len(logs()); n != len(l.Segments()) {
		t.Errorf("%d files of %d segments", n, len(l.Segments()))
	}
	if e := l.Trim(7); e != api.OK || logs()[0] != l.Segments()[0].Base || l.Start() != 7 {
		t.Errorf("Trim is %d, files %v", e, logs())
	}
	n, e := l.Retain(13)
	if n == 0 || e != api.OK || len(l.Segments()) != 1 || !slices.Equal(logs(), []int{l.Segments()[0].Base}) || l.Start() != l.Segments()[0].Base {
		t.Errorf("Retain is %d, %d, files %v, Start %d", n, e, logs(), l.Start())
	}
	if n, e := l.Retain(math.MaxInt); n != 0 || e != api.OK {
		t.Errorf("Retain of the active segment is %d, %d", n, e)
	}
	if _, seq, ok := opened(t, d.Crash(), c).Producers().Next(3); !ok || seq < 21 {
		t.Errorf("the producer is forgotten: %d", seq)
	}
}

func TestCleanGoesOnAndMayEndBehindTheLastBatch(t *testing.T) { // P15.4, P15.6
	c := config()
	c.Compact, c.SegBytes, c.Grace = true, 110, 5
	d := fresh(t, 400)
	l := opened(t, d, c)
	done(t, l, api.Batch{Records: []api.Record{rec(0, "a", "1")}}, 0)
	done(t, l, api.Batch{Records: []api.Record{rec(0, "a", "")}}, 0)
	wide := api.Batch{Records: []api.Record{rec(0, "", strings.Repeat("v", 50))}}
	for {
		if _, e := l.Append(wide, 0); e == api.ErrFull {
			break
		}
	}
	end := l.End()
	if e := l.Trim(end); e != api.OK {
		t.Fatal(e)
	}
	if n, e := l.Clean(6); e != api.OK {
		t.Errorf("Clean is %d, %d", n, e)
	}
	other := opened(t, d.Crash(), c)
	if other.End() != end || other.Start() != end {
		t.Errorf("behind a crash Start is %d, End %d, not %d", other.Start(), other.End(), end)
	}
	if base := done(t, other, plain(1), 0); base != end {
		t.Errorf("the offset %d is given twice", base)
	}
}

func TestSegmentsThatAreCleanedEmptyStay(t *testing.T) { // P15.4
	c := config()
	c.Compact, c.SegBytes = true, 100
	d := fresh(t, 1<<20)
	l, m := opened(t, d, c), newModel(c)
	for i := range 6 {
		b := api.Batch{Records: []api.Record{rec(i, "a", strings.Repeat("v", 20))}}
		done(t, l, b, i)
		m.append(b, i)
	}
	n, e := l.Clean(6)
	if want := m.clean(6); n != want || n != 4 || e != api.OK {
		t.Errorf("Clean is %d, %d, not %d", n, e, want)
	}
	agree(t, "cleaned", l, m)
	if n, e := l.Clean(6); n != 0 || e != api.OK {
		t.Errorf("Clean again is %d, %d", n, e)
	}
	if records, e := l.Read(0, 0); len(records) != 1 || records[0].Offset != 4 || e != api.OK {
		t.Errorf("Read is %v, %d", records, e)
	}
	m.flushed, m.dirty = m.end, 0
	if e := l.Flush(); e != api.OK {
		t.Fatal(e)
	}
	agree(t, "opened again", opened(t, d.Crash(), c), m)
}

func TestNilAndZeroLog(t *testing.T) { // P15.5
	for _, l := range []*partlog.Log{nil, new(partlog.Log)} {
		base, a := l.Append(api.Batch{}, -1)
		records, r := l.Read(0, 0)
		n, b := l.Retain(0)
		m, c := l.Clean(0)
		if base != 0 || a != api.ErrOff || records != nil || r != api.ErrOff || n != 0 || b != api.ErrOff || m != 0 || c != api.ErrOff || l.Trim(5) != api.ErrOff || l.Flush() != api.ErrOff {
			t.Error("an act on no log")
		}
		if l.FindTime(0) != 0 || l.Start() != 0 || l.End() != 0 || l.Flushed() != 0 || len(l.Segments()) != 0 || len(l.Batches()) != 0 || !l.Dead() || !producer.Same(l.Producers(), producer.New()) || l.Producers() == nil {
			t.Error("no log has something")
		}
		for range l.From(0) {
			t.Error("no log has records")
		}
	}
}

func TestLogKeepsAndSharesNothing(t *testing.T) { // P15.7
	l, m := opened(t, fresh(t, 1<<20), config()), newModel(config())
	b := plain(3)
	for i := range b.Records {
		b.Records[i].Offset = 50 + i
	}
	kept := fmt.Sprint(b)
	done(t, l, b, 0)
	m.append(plain(3), 0)
	if fmt.Sprint(b) != kept {
		t.Error("what was handed in is changed")
	}
	clear(b.Records[0].Value)
	b.Records[1] = api.Record{}
	agree(t, "what was handed in is turned", l, m)
	l.Batches()[0][0].Records[0] = api.Record{}
	records, _ := l.Read(0, 100)
	clear(records[0].Value)
	l.Segments()[0].Base = 9
	if e := l.Producers().Add(of(1, 0, 0, 1)); e != api.OK {
		t.Error(e)
	}
	for r := range l.From(0) {
		clear(r.Value)
	}
	agree(t, "what was answered is turned", l, m)
}

func TestFromShowsWhatIsThereWhenAWalkBegins(t *testing.T) { // P15.3
	l := opened(t, fresh(t, 1<<20), config())
	it := l.From(math.MinInt)
	for range 5 {
		done(t, l, plain(3), 0)
	}
	if e := l.Trim(2); e != api.OK {
		t.Fatal(e)
	}
	for most := 1; most < 13; most += 4 {
		seen := 0
		for r := range it {
			if r.Offset != 2+seen {
				t.Errorf("the record %d is at %d", seen, r.Offset)
			}
			if seen++; seen == most {
				break
			}
		}
		if seen != most {
			t.Errorf("a walk that is left at %d has %d", most, seen)
		}
	}
	for range l.From(math.MaxInt) {
		t.Error("From beyond all has one")
	}
}

func TestLogsOfOneDiskHaveNothingInCommon(t *testing.T) { // rule 7 of DOC.md
	d := fresh(t, 1<<20)
	a := opened(t, d, config())
	b, e := partlog.Open(d, "a-1", config())
	if e != api.OK {
		t.Fatal(e)
	}
	for i := range 9 {
		done(t, a, of(1, 0, 2*i, 2), 0)
		done(t, b, plain(1), 0)
	}
	if e := a.Trim(10); e != api.OK {
		t.Fatal(e)
	}
	c, e := partlog.Open(d, "a-1", config())
	if e != api.OK || c.Start() != 0 || c.End() != 9 || len(c.Producers().Known()) != 0 {
		t.Errorf("the other one: %d, %d to %d", e, c.Start(), c.End())
	}
	var none *disk.Disk
	if l, e := partlog.Open(none, "a-0", config()); l != nil || e != api.ErrArg {
		t.Error("a log on no disk")
	}
}
