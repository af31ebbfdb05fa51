package partlog_test

import (
	"fmt"
	"math/rand"
	"testing"

	"cordwain/api"
	"cordwain/disk"
	"cordwain/partlog"
	"cordwain/producer"
)

// steps are some, by a number, as a log may meet them one by one.
func steps(seed int64, n int) []step {
	r := rand.New(rand.NewSource(seed))
	seqs := map[[2]int]int{}
	now, end := 0, 0
	var l []step
	for range n {
		now += r.Intn(4)
		switch k := r.Intn(20); {
		case k < 12:
			s := step{kind: "append", n: now}
			for range 1 + r.Intn(3) {
				key, value := string(rune('a'+r.Intn(4))), fmt.Sprint("v", r.Intn(1000))
				switch r.Intn(6) {
				case 0:
					key = ""
				case 1:
					value = ""
				}
				s.b.Records = append(s.b.Records, rec(r.Intn(now+1), key, value))
			}
			if id := r.Intn(3); id > 0 {
				epoch := r.Intn(20) / 19
				s.b.Producer, s.b.Epoch, s.b.Seq = id, epoch, seqs[[2]int{id, epoch}]
				if r.Intn(5) > 0 {
					seqs[[2]int{id, epoch}] += len(s.b.Records)
				}
			}
			end += len(s.b.Records)
			l = append(l, s)
		case k < 14:
			l = append(l, step{kind: "trim", n: r.Intn(end + 2)})
		case k < 16:
			l = append(l, step{kind: "retain", n: now})
		case k < 18:
			l = append(l, step{kind: "clean", n: now})
		default:
			l = append(l, step{kind: "flush"})
		}
	}
	return l
}

// configs are some that lead to all that a log does.
func configs(seed int) api.Config {
	c := api.Config{SegBytes: 150 + 50*(seed%4), SegAge: seed % 3 * 20, Index: 1 + seed%3*70, MapMost: []int{100, 2, 1}[seed%3], Grace: seed % 5 * 4, Compact: seed%4 > 0, Flush: seed%2 == 0}
	if seed%5 == 1 {
		c.KeepBytes = 600
	}
	if seed%7 == 2 {
		c.KeepAge = 30
	}
	return c
}

func TestLogIsAsItsModel(t *testing.T) { // P15.1 to P15.5, P15.7
	for seed := range 60 {
		c := configs(seed)
		d := fresh(t, 1<<30)
		l, m := opened(t, d, c), newModel(c)
		agree(t, "a new one", l, m)
		for i, s := range steps(int64(seed), 60) {
			what := fmt.Sprintf("seed %d, step %d, %s %d", seed, i, s.kind, s.n)
			n, e := s.onLog(l)
			if want, we := s.onModel(m); n != want || e != we {
				t.Fatalf("%s: %d, %d, not %d, %d", what, n, e, want, we)
			}
			agree(t, what, l, m)
			if i%9 == 5 { // opened again, without a crash, and behind one that loses nothing
				if e := l.Flush(); e != api.OK {
					t.Fatal(e)
				}
				if i%2 == 0 {
					d = d.Crash()
				}
				l = opened(t, d, c)
				m.flushed, m.dirty = m.end, 0
				agree(t, what+", opened again", l, m)
			}
		}
	}
}

// play does steps until one is told ErrOff: how many were done.
func play(t *testing.T, l *partlog.Log, m *model, all []step, tables map[int]*producer.Table) int {
	t.Helper()
	for i, s := range all {
		n, e := s.onLog(l)
		if e == api.ErrOff {
			return i
		}
		if want, we := s.onModel(m); n != want || e != we {
			t.Fatalf("step %d, %s: %d, %d, not %d, %d", i, s.kind, n, e, want, we)
		}
		tables[m.end] = m.table.Copy()
	}
	return len(all)
}

// prefixed tells whether what is there are batches of the ones that were, up to one of them.
func prefixed(got, were []api.Batch) bool {
	return len(got) <= len(were) && sameSegments([][]api.Batch{got}, [][]api.Batch{were[:len(got)]})
}

// mayBe tells whether a log behind a crash is one that there may be, by the
// model of what was, and of what the step that was going on would have made of it.
func mayBe(l *partlog.Log, was, then *model, kind string) string {
	got := &model{}
	for _, x := range l.Segments() {
		got.bases = append(got.bases, x.Base)
	}
	got.segs = l.Batches()
	if l.Start() != min(was.start, l.End()) && l.Start() != min(then.start, l.End()) {
		return fmt.Sprint("Start ", l.Start())
	}
	if l.End() < was.flushed {
		return fmt.Sprint("End ", l.End(), ", but Flushed was ", was.flushed)
	}
	flat := got.flat()
	if kind == "clean" { // segment by segment: what is behind is as of any other act
		return cleanedMayBe(got, was, then)
	}
	old := l.Start() == min(was.start, l.End()) && prefixed(flat, was.flat())
	fresh := l.Start() == min(then.start, l.End()) && prefixed(flat, then.flat())
	if !old && !fresh {
		return fmt.Sprintf("batches %v of %v, Start %d", flat, was.flat(), l.Start())
	}
	if len(flat) > 0 && l.End() != max(flat[len(flat)-1].Last+1, got.bases[len(got.bases)-1]) {
		return fmt.Sprint("End ", l.End())
	}
	return ""
}

func cleanedMayBe(got, was, then *model) string {
	for i, base := range got.bases {
		var a, b []api.Batch
		for j := range was.bases {
			if was.bases[j] == base {
				a, b = was.segs[j], then.segs[j]
			}
		}
		whole := i < len(got.bases)-1
		if whole && !sameSegments(got.segs[i:i+1], [][]api.Batch{a}) && !sameSegments(got.segs[i:i+1], [][]api.Batch{b}) || !whole && !prefixed(got.segs[i], a) {
			return fmt.Sprintf("segment %d is %v, not %v, nor %v", base, got.segs[i], a, b)
		}
	}
	return ""
}

// wholeCrash crashes a disk, opens the log twice, and within its first opening cuts the power off, too.
func wholeCrash(t *testing.T, what string, d *disk.Disk, c api.Config, picks []int) (*disk.Disk, *partlog.Log) {
	t.Helper()
	crashed := d.Crash(picks...)
	l := opened(t, crashed, c)
	acts := crashed.Ops()
	for cut := range acts {
		again := d.Crash(picks...)
		again.Cut(cut)
		if _, e := partlog.Open(again, "a-0", c); e != api.ErrOff {
			t.Fatalf("%s: Open without power is %d", what, e)
		}
		same(t, what+", crashed within Open", opened(t, again.Crash(picks[1:]...), c), l)
	}
	same(t, what+", opened twice", opened(t, crashed, c), l)
	same(t, what+", opened twice, behind a crash", opened(t, crashed.Crash(), c), l)
	return crashed, l
}

// same compares two logs.
func same(t *testing.T, what string, a, b *partlog.Log) {
	t.Helper()
	if a.Start() != b.Start() || a.End() != b.End() || a.Flushed() != b.Flushed() || !sameSegments(a.Batches(), b.Batches()) || !producer.Same(a.Producers(), b.Producers()) || fmt.Sprint(a.Segments()) != fmt.Sprint(b.Segments()) {
		t.Fatalf("%s: %d to %d, flushed %d, %v\nnot %d to %d, flushed %d, %v", what, a.Start(), a.End(), a.Flushed(), a.Segments(), b.Start(), b.End(), b.Flushed(), b.Segments())
	}
}

func TestLogBehindEachCrash(t *testing.T) { // P15.6
	for seed := range 20 {
		c := configs(seed)
		all := steps(int64(seed)+1000, 26)
		whole := fresh(t, 1<<30)
		play(t, opened(t, whole, c), newModel(c), all, map[int]*producer.Table{})
		for cut := range whole.Ops() {
			d := fresh(t, 1<<30)
			l, was := opened(t, d, c), newModel(c)
			d.Cut(cut)
			tables := map[int]*producer.Table{0: producer.New()}
			done := play(t, l, was, all, tables)
			if done == len(all) || !l.Dead() {
				t.Fatalf("seed %d, cut %d: the power does not go", seed, cut)
			}
			then := was.copy()
			all[done].onModel(then)
			tables[then.end] = then.table
			r := rand.New(rand.NewSource(int64(cut)))
			for round := range 4 {
				picks := []int{r.Intn(100), r.Intn(400), r.Intn(400), r.Intn(400), r.Intn(400)}
				if round == 0 {
					picks = []int{0, 0}
				}
				if round == 1 {
					picks = []int{-1, -1, -1, -1, -1, -1}
				}
				what := fmt.Sprintf("seed %d, cut %d, in step %d, %s, picks %v", seed, cut, done, all[done].kind, picks)
				left, got := wholeCrash(t, what, d, c, picks)
				if fault := mayBe(got, was, then, all[done].kind); fault != "" {
					t.Fatalf("%s: %s", what, fault)
				}
				if got.Flushed() != got.End() || tables[got.End()] == nil || !producer.Same(got.Producers(), tables[got.End()]) {
					t.Fatalf("%s: Flushed %d, End %d, or the producers", what, got.Flushed(), got.End())
				}
				if round == cut%4 {
					goesOn(t, what, left, got, c, all[:12])
				}
			}
		}
	}
}

// modelOf is the model that a log is one of that was just opened.
func modelOf(l *partlog.Log, c api.Config) *model {
	m := &model{c: c, start: l.Start(), end: l.End(), flushed: l.End(), table: l.Producers(), segs: l.Batches()}
	for _, x := range l.Segments() {
		m.bases = append(m.bases, x.Base)
	}
	return m
}

// goesOn plays behind a crash: the offsets go on at End, and what was left lying is in nobody's way.
func goesOn(t *testing.T, what string, d *disk.Disk, l *partlog.Log, c api.Config, all []step) {
	t.Helper()
	m := modelOf(l, c)
	agree(t, what, l, m)
	for i, s := range all {
		n, e := s.onLog(l)
		if want, we := s.onModel(m); n != want || e != we {
			t.Fatalf("%s, then step %d, %s: %d, %d, not %d, %d", what, i, s.kind, n, e, want, we)
		}
	}
	agree(t, what+", gone on", l, m)
	if e := l.Flush(); e != api.OK {
		t.Fatal(e)
	}
	m.flushed = m.end
	agree(t, what+", gone on and opened", opened(t, d.Crash(), c), m)
}
