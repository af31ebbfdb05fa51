package segment_test

import (
	"math"
	"slices"
	"testing"

	"cordwain/api"
	"cordwain/batch"
	"cordwain/disk"
	"cordwain/names"
	"cordwain/segment"
)

func fresh(t *testing.T, room int) *disk.Disk {
	t.Helper()
	d, e := disk.New(room)
	if e != api.OK {
		t.Fatal(e)
	}
	return d
}

func created(t *testing.T, d *disk.Disk, base, every int) *segment.Seg {
	t.Helper()
	s, e := segment.Create(d, "a-0", base, every)
	if e != api.OK || s == nil {
		t.Fatalf("Create is %d", e)
	}
	return s
}

func opened(t *testing.T, d *disk.Disk, base, every int) *segment.Seg {
	t.Helper()
	s, e := segment.Open(d, "a-0", base, every)
	if e != api.OK || s == nil {
		t.Fatalf("Open is %d", e)
	}
	return s
}

// of is a batch from base on with a record of each time, at each second offset.
func of(base int, times ...int) api.Batch {
	b := api.Batch{Base: base, Last: base + 2*len(times)}
	for i, time := range times {
		b.Records = append(b.Records, api.Record{Offset: base + 2*i, Time: time, HasValue: true, Value: []byte("value")})
	}
	return b
}

// some are batches with gaps between them, one of them without records.
func some() []api.Batch {
	return []api.Batch{of(100), of(102, 50, 40), of(107, 45), of(120, 45, 90, 3), of(127), of(130, 95)}
}

func filled(t *testing.T, d *disk.Disk, every int) *segment.Seg {
	t.Helper()
	s := created(t, d, 100, every)
	for _, b := range some() {
		if e := s.Append(b); e != api.OK {
			t.Fatalf("Append is %d", e)
		}
	}
	return s
}

func collect(it func(func(api.Batch) bool), most int) (l []api.Batch) {
	for b := range it {
		if l = append(l, b); len(l) == most {
			break
		}
	}
	return l
}

func alike(a, b []api.Batch) bool { return slices.EqualFunc(a, b, batch.Same) }

func bytesOf(l []api.Batch) (n int) {
	for _, b := range l {
		n += batch.Size(b)
	}
	return n
}

// shows compares all that a segment shows with the batches that it should have.
func shows(t *testing.T, what string, s *segment.Seg, base int, want []api.Batch) {
	t.Helper()
	next, first, most, any := base, 0, 0, false
	for _, b := range want {
		next = b.Last + 1
		for _, r := range b.Records {
			if !any {
				first, any = r.Time, true
			}
			most = max(most, r.Time)
		}
	}
	f, m := s.Times()
	if s.Base() != base || s.Next() != next || s.Bytes() != bytesOf(want) || f != first || m != most {
		t.Fatalf("%s: Base %d, Next %d, Bytes %d, Times %d, %d", what, s.Base(), s.Next(), s.Bytes(), f, m)
	}
	if got := collect(s.All(), -1); !alike(got, want) {
		t.Fatalf("%s: All is %v, not %v", what, got, want)
	}
	for offset := base - 2; offset < next+2; offset++ {
		behind := want
		for len(behind) > 0 && behind[0].Last < offset {
			behind = behind[1:]
		}
		if got := collect(s.From(offset), -1); !alike(got, behind) {
			t.Fatalf("%s: From(%d) is %v, not %v", what, offset, got, behind)
		}
	}
	for time := -1; time < 100; time++ {
		offset, ok := s.FindTime(time)
		if o, there := find(want, time); offset != o || ok != there {
			t.Fatalf("%s: FindTime(%d) is %d, %v, not %d, %v", what, time, offset, ok, o, there)
		}
	}
}

func find(l []api.Batch, time int) (int, bool) {
	for _, b := range l {
		for _, r := range b.Records {
			if r.Time >= time {
				return r.Offset, true
			}
		}
	}
	return 0, false
}

func name(base int) string {
	s, _ := names.Segment("a-0", base, "log")
	return s
}

func TestCreateAndOpenRefuse(t *testing.T) { // P9.1
	d := fresh(t, 1000)
	for _, c := range []struct {
		d     *disk.Disk
		dir   string
		base  int
		every int
	}{
		{nil, "a-0", 0, 1}, {d, "a", 0, 1}, {d, "", 0, 1}, {d, "a-00", 0, 1}, {d, "a-0", -1, 1}, {d, "a-0", 1<<62 + 1, 1}, {d, "a-0", 0, 0}, {d, "a-0", 0, math.MinInt},
	} {
		if s, e := segment.Create(c.d, c.dir, c.base, c.every); s != nil || e != api.ErrArg {
			t.Errorf("Create(%q, %d, %d) is %v, %d", c.dir, c.base, c.every, s, e)
		}
		if s, e := segment.Open(c.d, c.dir, c.base, c.every); s != nil || e != api.ErrArg {
			t.Errorf("Open(%q, %d, %d) is %v, %d", c.dir, c.base, c.every, s, e)
		}
	}
	if s, e := segment.Open(d, "a-0", 5, 1); s != nil || e != api.ErrNone {
		t.Errorf("Open of no file is %v, %d", s, e)
	}
	s := created(t, d, 5, math.MaxInt)
	shows(t, "created", s, 5, nil)
	if e := s.Append(of(5)); e != api.OK {
		t.Fatal(e)
	}
	if s, e := segment.Create(d, "a-0", 5, 1); s != nil || e != api.ErrArg {
		t.Errorf("Create of a file that is there is %v, %d", s, e)
	}
	if e := d.Append(name(7), nil); e != api.OK {
		t.Fatal(e)
	}
	if s, e := segment.Create(d, "a-0", 7, 1); s != nil || e != api.ErrArg {
		t.Errorf("Create of an empty file that is there is %v, %d", s, e)
	}
	shows(t, "an empty file", opened(t, d, 7, 1), 7, nil)
	shows(t, "another base", created(t, d, 6, 1), 6, nil)
	shows(t, "the greatest base", created(t, d, 1<<62, 1), 1<<62, nil)
}

func TestSegmentShowsItsBatches(t *testing.T) { // P9.2, P9.3
	for _, every := range []int{1, 60, 130, 1 << 20} {
		d := fresh(t, 1<<20)
		s := created(t, d, 100, every)
		for i, b := range some() {
			if e := s.Append(b); e != api.OK {
				t.Fatal(e)
			}
			shows(t, "appended", s, 100, some()[:i+1])
		}
		shows(t, "opened", opened(t, d, 100, every), 100, some())
		var want []byte
		for _, b := range some() {
			p, _ := batch.Encode(b)
			want = append(want, p...)
		}
		if got, e := d.Read(name(100)); string(got) != string(want) || e != api.OK {
			t.Errorf("the file is %v, not %v", got, want)
		}
	}
}

func TestTimesAreOfTheFirstRecord(t *testing.T) { // P9.2
	s := created(t, fresh(t, 1000), 0, 1)
	var want []api.Batch
	for _, b := range []api.Batch{of(0), of(1, 7), of(5, 9), of(8), of(9, 2)} {
		if e := s.Append(b); e != api.OK {
			t.Fatal(e)
		}
		want = append(want, b)
		shows(t, "one more", s, 0, want)
	}
}

func TestAppendRefuses(t *testing.T) { // P9.2
	d := fresh(t, 1000)
	s := filled(t, d, 1)
	before := d.Ops()
	for what, c := range map[string]struct {
		b    api.Batch
		want api.Errno
	}{
		"a bad one":               {api.Batch{Base: 200, Last: 199}, api.ErrArg},
		"a bad one below Next":    {api.Batch{Base: 0, Records: make([]api.Record, 101)}, api.ErrBig},
		"one at Last":             {of(132), api.ErrArg},
		"one far below":           {of(0), api.ErrArg},
		"a key that is too great": {api.Batch{Base: 200, Last: 200, Records: []api.Record{{Offset: 200, HasKey: true, Key: make([]byte, 201)}}}, api.ErrBig},
	} {
		if e := s.Append(c.b); e != c.want {
			t.Errorf("%s: %d, not %d", what, e, c.want)
		}
	}
	if d.Ops() != before {
		t.Error("a refused batch comes to the disk")
	}
	shows(t, "behind these", s, 100, some())
	if e := created(t, d, 300, 1).Append(of(299)); e != api.ErrArg {
		t.Errorf("below the base: %d", e)
	}
	if e := s.Append(of(133)); e != api.OK {
		t.Errorf("at Next: %d", e)
	}
	shows(t, "at Next", s, 100, append(some(), of(133)))
}

func TestAppendWithoutRoomOrPower(t *testing.T) { // P9.2
	room := bytesOf(some()) + 59
	d := fresh(t, room)
	s := filled(t, d, 1)
	if e := s.Append(of(140, 5)); e != api.ErrFull {
		t.Errorf("without room: %d", e)
	}
	shows(t, "without room", s, 100, some())
	if e := s.Append(of(140)); e != api.OK {
		t.Errorf("with room: %d", e)
	}
	d.Cut(0)
	if e := s.Append(of(150)); e != api.ErrOff {
		t.Errorf("without power: %d", e)
	}
	if e := s.Flush(); e != api.ErrOff {
		t.Errorf("Flush without power: %d", e)
	}
	shows(t, "without power", s, 100, append(some(), of(140)))
	full := fresh(t, 10)
	if s := created(t, full, 0, 1); s.Append(of(0)) != api.ErrFull || s.Flush() != api.OK || len(full.Names()) > 1 {
		t.Error("the first batch without room")
	}
}

func TestFlushMakesSafe(t *testing.T) { // P9.2, P9.4
	d := fresh(t, 1<<20)
	s := created(t, d, 100, 1)
	d.Cut(1)
	if e := s.Flush(); e != api.OK {
		t.Errorf("Flush of nothing is %d", e)
	}
	d.Cut(1000)
	for i, b := range some() {
		if e := s.Append(b); e != api.OK {
			t.Fatal(e)
		}
		if i == 2 {
			if e := s.Flush(); e != api.OK {
				t.Fatal(e)
			}
		}
	}
	shows(t, "crashed", opened(t, d.Crash(), 100, 1), 100, some()[:3])
	shows(t, "flushed alone", s, 100, some())
	d.Cut(1)
	if e := s.Flush(); e != api.ErrOff {
		t.Errorf("Flush that is cut off is %d", e)
	}
	if e := opened(t, d.Crash(), 100, 1).Flush(); e != api.OK {
		t.Errorf("Flush of an opened one is %d", e)
	}
}

func TestOpenCutsOff(t *testing.T) { // P9.1
	d := fresh(t, 1<<20)
	filled(t, d, 1)
	all := bytesOf(some())
	for extra := range batch.Size(of(140, 1)) {
		other := d.Crash(1, 0)
		p, _ := d.Read(name(100))
		q, _ := batch.Encode(of(140, 1))
		if e := other.Append(name(100), append(p, q[:extra]...)); e != api.OK {
			t.Fatal(e)
		}
		shows(t, "a beginning", opened(t, other, 100, 1), 100, some())
		if other.Size(name(100)) != all {
			t.Errorf("%d bytes are there", other.Size(name(100)))
		}
		shows(t, "what Open left is safe", opened(t, other.Crash(1), 100, 1), 100, map[bool][]api.Batch{true: some(), false: nil}[extra > 0])
	}
	ops := d.Ops()
	opened(t, d, 100, 1)
	if d.Truncate(name(100), all-1) != api.OK || d.Ops() != ops+1 {
		t.Error("Open of a whole file acts on it")
	}
	shows(t, "without the last byte", opened(t, d, 100, 1), 100, some()[:5])
	low := fresh(t, 1000)
	s := created(t, low, 0, 1)
	for _, b := range []api.Batch{of(10), of(90), of(101, 7)} {
		if e := s.Append(b); e != api.OK {
			t.Fatal(e)
		}
	}
	if e := low.Rename(name(0), name(90)); e != api.OK {
		t.Fatal(e)
	}
	shows(t, "a Base below base", opened(t, low, 90, 1), 90, nil)
	if low.Size(name(90)) != 0 {
		t.Error("what is below base is there")
	}
}

func TestOpenNeedsPowerToCut(t *testing.T) { // P9.1
	d := fresh(t, 1000)
	filled(t, d, 1)
	if e := d.Append(name(100), []byte{1}); e != api.OK {
		t.Fatal(e)
	}
	d.Cut(0)
	if s, e := segment.Open(d, "a-0", 100, 1); s != nil || e != api.ErrOff {
		t.Errorf("Open is %v, %d", s, e)
	}
}

func TestOpenBehindEachCrash(t *testing.T) { // P9.4
	for cut := range 12 {
		d := fresh(t, 1<<20)
		s := created(t, d, 100, 1)
		d.Cut(cut)
		done, safe := 0, 0
		for i, b := range some() {
			if s.Append(b) != api.OK {
				break
			}
			done = i + 1
			if i%2 == 1 && s.Flush() == api.OK {
				safe = done
			}
		}
		for pick := range 130 {
			other := d.Crash(pick, pick)
			if other.Size(name(100)) < 0 {
				if safe > 0 {
					t.Errorf("cut %d, pick %d: nothing is there", cut, pick)
				}
				continue
			}
			o := opened(t, other, 100, 1)
			got := collect(o.All(), -1)
			if len(got) < safe || len(got) > done || !alike(got, some()[:len(got)]) {
				t.Errorf("cut %d, pick %d: %d batches, of %d, %d of them safe", cut, pick, len(got), done, safe)
			}
			shows(t, "behind a crash", o, 100, some()[:len(got)])
			if again := collect(opened(t, other, 100, 1).All(), -1); !alike(again, got) {
				t.Errorf("cut %d, pick %d: opened twice", cut, pick)
			}
		}
	}
}

func TestWalksMayBeLeft(t *testing.T) { // P9.3
	s := filled(t, fresh(t, 1<<20), 1)
	all, from := s.All(), s.From(107)
	for range 2 {
		if got := collect(all, 2); !alike(got, some()[:2]) {
			t.Errorf("All, left early, is %v", got)
		}
		if got := collect(from, 1); !alike(got, some()[2:3]) {
			t.Errorf("From, left early, is %v", got)
		}
	}
	if e := s.Append(of(140, 99)); e != api.OK {
		t.Fatal(e)
	}
	if got := collect(all, -1); !alike(got, append(some(), of(140, 99))) {
		t.Error("a walk does not show what is there when it begins")
	}
}

func TestNilSegment(t *testing.T) { // P9.3
	var s *segment.Seg
	first, most := s.Times()
	offset, ok := s.FindTime(0)
	if s.Append(of(0)) != api.ErrOff || s.Append(api.Batch{Base: -1}) != api.ErrOff || s.Flush() != api.ErrOff || s.Base() != 0 || s.Next() != 0 || s.Bytes() != 0 || first != 0 || most != 0 || offset != 0 || ok {
		t.Error("a nil Seg has something")
	}
	if collect(s.All(), -1) != nil || collect(s.From(0), -1) != nil {
		t.Error("a nil Seg has batches")
	}
}

func TestSegmentKeepsAndSharesNothing(t *testing.T) { // P9.4
	s := created(t, fresh(t, 1000), 0, 1)
	b := of(0, 5)
	if e := s.Append(b); e != api.OK {
		t.Fatal(e)
	}
	b.Records[0].Value[0] = 'X'
	b.Records[0].Time = 9
	shows(t, "what was handed in is turned", s, 0, []api.Batch{of(0, 5)})
	clear(collect(s.All(), -1)[0].Records[0].Value)
	shows(t, "what was answered is turned", s, 0, []api.Batch{of(0, 5)})
}
