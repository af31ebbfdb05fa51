package clean_test

import (
	"fmt"
	"math"
	"strings"
	"testing"

	"cordwain/api"
	"cordwain/batch"
	"cordwain/clean"
	"cordwain/fold"
	"cordwain/keymap"
)

// rec reads a record: key=value, key alone (without a value), or -, without a key. Its Time is its Offset's tenfold.
func rec(offset int, s string) api.Record {
	key, value, has := strings.Cut(s, "=")
	r := api.Record{Offset: offset, Time: 10 * offset, HasKey: key != "-", HasValue: has}
	if r.HasKey {
		r.Key = []byte(key)
	}
	if has {
		r.Value = []byte(value)
	}
	return r
}

// of is a batch with records at base and on.
func of(base int, l ...string) api.Batch {
	b := api.Batch{Base: base, Last: base + max(len(l)-1, 0), Producer: 5, Epoch: 2, Seq: base}
	for i, s := range l {
		b.Records = append(b.Records, rec(base+i, s))
	}
	return b
}

// told is batches as a text.
func told(l []api.Batch) string {
	var s []string
	for _, b := range l {
		s = append(s, fmt.Sprintf("%d-%d/%d.%d.%d:", b.Base, b.Last, b.Producer, b.Epoch, b.Seq))
		for _, r := range b.Records {
			s = append(s, fmt.Sprintf("%d.%d.%v.%s.%v.%s", r.Offset, r.Time, r.HasKey, r.Key, r.HasValue, r.Value))
		}
	}
	return strings.Join(s, " ")
}

func mapOf(t *testing.T, l map[string]int) *keymap.Map {
	t.Helper()
	m, e := keymap.New(100)
	if e != api.OK {
		t.Fatal(e)
	}
	for key, offset := range l {
		m.Offer([]byte(key), offset)
	}
	return m
}

func TestRecord(t *testing.T) { // P14.1
	m := mapOf(t, map[string]int{"a": 5, "b": 9, "": 7})
	for _, c := range []struct {
		r                api.Record
		upto, now, grace int
		want             bool
	}{
		{rec(4, "a=1"), 10, 0, 0, false}, {rec(5, "a=1"), 10, 0, 0, true}, {rec(6, "a=1"), 10, 0, 0, true},
		{rec(6, "=1"), 10, 0, 0, false}, {rec(7, "=1"), 10, 0, 0, true}, {rec(4, "c=1"), 10, 0, 0, true},
		{rec(4, "-"), 10, 10000, 0, true}, {rec(4, "-=1"), 10, 10000, 0, true},
		{rec(4, "a=1"), 5, 0, 0, false}, {rec(4, "a=1"), 4, 0, 0, true}, {rec(4, "a=1"), 3, 0, 0, true},
		{rec(5, "a"), 10, 60, 10, true}, {rec(5, "a"), 10, 61, 10, false}, {rec(6, "a"), 10, 71, 10, false}, {rec(4, "a"), 10, 0, 1000, false},
		{rec(5, "a"), 5, 10000, 10, true}, {rec(5, "c"), 10, 10000, 10, true}, {rec(5, "a"), 10, 50, 0, true}, {rec(5, "a"), 10, 51, 0, false},
		{rec(5, "a"), 10, 49, -2, false}, {rec(5, "a"), 10, 48, -2, true}, {rec(5, "a"), 10, math.MaxInt, math.MaxInt, true}, {rec(5, "a"), 10, math.MinInt, math.MinInt, true},
		{api.Record{Offset: 5, Time: math.MinInt, HasKey: true, Key: []byte("a")}, 10, math.MaxInt, math.MaxInt, false},
		{rec(5, "a="), 10, 10000, 10, true},
	} {
		if got := clean.Record(c.r, m, c.upto, c.now, c.grace); got != c.want {
			t.Errorf("Record(%d %q, %d, %d, %d) is %v", c.r.Offset, c.r.Key, c.upto, c.now, c.grace, got)
		}
	}
	if !clean.Record(rec(0, "a"), nil, 10, 1000, 0) {
		t.Error("a nil map knows a key")
	}
}

func TestBatchAndSegment(t *testing.T) { // P14.1
	m := mapOf(t, map[string]int{"a": 20, "b": 3})
	l := []api.Batch{of(0, "a=1", "-", "c=1", "b"), of(4, "a=2", "a=3"), of(6), of(20, "a=4", "b=9")}
	want := []api.Batch{of(0, "a=1", "-", "c=1", "b"), of(20, "a=4", "b=9")}
	want[0].Records = want[0].Records[1:3]
	if got := clean.Segment(l, m, 30, 1000, 5); told(got) != told(want) {
		t.Errorf("Segment is %q, not %q", told(got), told(want))
	}
	for i, b := range l {
		got, any := clean.Batch(b, m, 30, 1000, 5)
		one := clean.Segment(l[i:i+1], m, 30, 1000, 5)
		if any != (len(one) == 1) || any && told([]api.Batch{got}) != told(one) || !any && !batch.Same(got, api.Batch{}) {
			t.Errorf("Batch %d is %v, %v", i, got, any)
		}
	}
	if got := clean.Segment(l, m, 5, 1000, 5); told(got) != told([]api.Batch{want[0], {Base: 4, Last: 5, Producer: 5, Epoch: 2, Seq: 4, Records: []api.Record{rec(5, "a=3")}}, want[1]}) {
		t.Errorf("Segment up to 5 is %q", told(got))
	}
	if got := clean.Segment(nil, m, 5, 1000, 5); len(got) != 0 {
		t.Errorf("Segment of nothing is %v", got)
	}
}

func segments(l [][]api.Batch) string {
	var s []string
	for _, one := range l {
		s = append(s, told(one))
	}
	return strings.Join(s, " | ")
}

func some() [][]api.Batch {
	return [][]api.Batch{
		{of(0, "a=1", "b=1", "-=x"), of(3, "a=2")},
		{of(4, "b", "c=1")},
		{of(6, "c=2", "a=3"), of(8, "c=3")},
	}
}

func TestAll(t *testing.T) { // P14.2
	for _, c := range []struct {
		what             string
		dirty, most, now int
		want             [][]api.Batch
		upto, gone       int
	}{
		{"all, in the grace", 0, 100, 50, [][]api.Batch{{{Base: 0, Last: 2, Producer: 5, Epoch: 2, Records: []api.Record{rec(2, "-=x")}}, of(3, "a=2")}, {of(4, "b", "c=1")}, some()[2]}, 6, 2},
		{"all, behind the grace", 0, 100, 51, [][]api.Batch{{{Base: 0, Last: 2, Producer: 5, Epoch: 2, Records: []api.Record{rec(2, "-=x")}}, of(3, "a=2")}, {{Base: 4, Last: 5, Producer: 5, Epoch: 2, Seq: 4, Records: []api.Record{rec(5, "c=1")}}}, some()[2]}, 6, 3},
		{"from the second batch on", 3, 100, 50, [][]api.Batch{{{Base: 0, Last: 2, Producer: 5, Epoch: 2, Records: []api.Record{rec(2, "-=x")}}, of(3, "a=2")}, {of(4, "b", "c=1")}, some()[2]}, 6, 2},
		{"from the second segment on", 4, 100, 50, [][]api.Batch{{{Base: 0, Last: 2, Producer: 5, Epoch: 2, Records: []api.Record{rec(0, "a=1"), rec(2, "-=x")}}, of(3, "a=2")}, {of(4, "b", "c=1")}, some()[2]}, 6, 1},
		{"from behind", 6, 100, 1000, some(), 6, 0},
		{"from far behind", 60, 100, 1000, some(), 60, 0},
		{"room for two", 0, 2, 1000, [][]api.Batch{{{Base: 0, Last: 2, Producer: 5, Epoch: 2, Records: []api.Record{rec(1, "b=1"), rec(2, "-=x")}}, of(3, "a=2")}, some()[1], some()[2]}, 4, 1},
		{"room for one", 0, 1, 1000, some(), 0, 0},
		{"no room", 0, 0, 1000, some(), 0, 0},
		{"room below 0, for one", 3, math.MinInt, 1000, [][]api.Batch{{{Base: 0, Last: 2, Producer: 5, Epoch: 2, Records: []api.Record{rec(1, "b=1"), rec(2, "-=x")}}, of(3, "a=2")}, some()[1], some()[2]}, 4, 1},
	} {
		out, upto, gone := clean.All(some(), c.dirty, api.Config{MapMost: c.most, Grace: 10}, c.now)
		if segments(out) != segments(c.want) || len(out) != 3 || upto != c.upto || gone != c.gone {
			t.Errorf("%s: %q, %d, %d\nnot %q", c.what, segments(out), upto, gone, segments(c.want))
		}
	}
}

func TestAllOfFewSegments(t *testing.T) { // P14.2, P14.3
	for _, l := range [][][]api.Batch{nil, {}, {nil}, {{of(0, "a=1", "a=2"), of(2, "a")}}, {{of(0)}}} {
		out, upto, gone := clean.All(l, 7, api.Config{MapMost: 10}, 1<<50)
		if segments(out) != segments(l) || len(out) != len(l) || upto != 7 || gone != 0 {
			t.Errorf("All of %q is %q, %d, %d", segments(l), segments(out), upto, gone)
		}
	}
	out, upto, gone := clean.All([][]api.Batch{{of(0, "a=1"), of(1, "a=2")}, {of(2)}}, 0, api.Config{MapMost: 10}, 0)
	if segments(out) != segments([][]api.Batch{{of(1, "a=2")}, {of(2)}}) || upto != 2 || gone != 1 {
		t.Errorf("All is %q, %d, %d", segments(out), upto, gone)
	}
	out, _, gone = clean.All([][]api.Batch{{of(0, "a=1")}, {of(1, "a=2")}, nil}, 0, api.Config{MapMost: 10}, 0)
	if segments(out) != segments([][]api.Batch{nil, {of(1, "a=2")}, nil}) || len(out) != 3 || gone != 1 {
		t.Errorf("All is %q, %d", segments(out), gone)
	}
}

// history is segments of records of few keys, by a rule of its own.
func history(seed int) (l [][]api.Batch) {
	offset := 0
	for range 2 + seed%5 {
		var one []api.Batch
		for range seed % 4 {
			var records []string
			for range 1 + seed%3 {
				seed = (seed*1103 + 12345) % 65536
				s := string(rune('a' + seed/16%5))
				if seed%3 > 0 {
					s += fmt.Sprintf("=%d", offset)
				}
				if seed%11 == 0 {
					s = "-"
				}
				records = append(records, s)
			}
			one = append(one, of(offset, records...))
			offset += len(records)
		}
		seed++
		l = append(l, one)
	}
	return l
}

func TestWhatIsCleanedSaysWhatItSaid(t *testing.T) { // P14.3
	for seed := range 400 {
		l := history(seed)
		var all []api.Batch
		for _, one := range l {
			all = append(all, one...)
		}
		want := fold.Batches(all)
		dirty := 0
		for round := range 4 {
			before := segments(l)
			out, upto, gone := clean.All(l, dirty, api.Config{MapMost: 1 + seed%4, Grace: 20}, 10*(seed%40)+round)
			if segments(l) != before {
				t.Fatalf("seed %d: what was handed in is changed", seed)
			}
			if len(out) != len(l) || upto < dirty || gone < 0 || told(out[len(out)-1]) != told(l[len(l)-1]) {
				t.Fatalf("seed %d: %q, %d, %d", seed, segments(out), upto, gone)
			}
			all = nil
			for _, one := range out {
				all = append(all, one...)
			}
			if !fold.Same(fold.Batches(all), want) {
				t.Fatalf("seed %d: %q says something else than %q", seed, segments(out), before)
			}
			l, dirty = out, upto
		}
	}
}

func TestCleanKeepsAndSharesNothing(t *testing.T) { // P14.3
	l := some()
	out, _, _ := clean.All(l, 0, api.Config{MapMost: 100, Grace: 10}, 51)
	want := segments(out)
	for _, one := range l {
		for _, b := range one {
			for i := range b.Records {
				clear(b.Records[i].Key)
				clear(b.Records[i].Value)
				b.Records[i].Offset = 77
			}
		}
	}
	if segments(out) != want {
		t.Error("what was answered shares what was handed in")
	}
	b := of(0, "a=1", "b=2")
	got, _ := clean.Batch(b, nil, 10, 0, 0)
	clear(got.Records[0].Key)
	_ = append(got.Records[:1], api.Record{})
	if told([]api.Batch{b}) != told([]api.Batch{of(0, "a=1", "b=2")}) {
		t.Error("what was handed in is changed")
	}
}
