package fold_test

import (
	"fmt"
	"math"
	"strings"
	"testing"

	"cordwain/api"
	"cordwain/fold"
)

// rec reads a record: key=value, key alone (without a value), or -, without a key.
func rec(offset int, s string) api.Record {
	key, value, has := strings.Cut(s, "=")
	r := api.Record{Offset: offset, HasKey: key != "-", HasValue: has}
	if r.HasKey {
		r.Key = []byte(key)
	}
	if has {
		r.Value = []byte(value)
	}
	return r
}

// of is a batch with records at base and on.
func of(base int, l ...string) api.Batch {
	b := api.Batch{Base: base, Last: base + 10, Producer: base + 1, Epoch: 2, Seq: 3}
	for i, s := range l {
		b.Records = append(b.Records, rec(base+i, s))
	}
	return b
}

func pairs(l []fold.Pair) string {
	var s []string
	for _, p := range l {
		s = append(s, fmt.Sprintf("%s=%s@%d", p.Key, p.Value, p.Offset))
	}
	return strings.Join(s, " ")
}

func batches(l []api.Batch) string {
	var s []string
	for _, b := range l {
		s = append(s, fmt.Sprintf("%d-%d/%d.%d.%d:", b.Base, b.Last, b.Producer, b.Epoch, b.Seq))
		for _, r := range b.Records {
			s = append(s, record(r))
		}
	}
	return strings.Join(s, " ")
}

func record(r api.Record) string {
	return fmt.Sprintf("%d.%d.%v.%s.%v.%s", r.Offset, r.Time, r.HasKey, r.Key, r.HasValue, r.Value)
}

func some() []api.Batch {
	return []api.Batch{of(0, "b=1", "a=1", "-=x"), of(20), of(30, "a=2", "b", "c=3", "=empty"), of(50, "c", "c=4", "d")}
}

func TestRecordsAreAllInOrder(t *testing.T) { // P13.1
	l := some()
	it := fold.Records(l)
	want := "0 1 2 30 31 32 33 50 51 52"
	for _, most := range []int{1, 3, 5, -1, -1} {
		var got []string
		for r := range it {
			if got = append(got, fmt.Sprint(r.Offset)); len(got) == most {
				break
			}
		}
		some := strings.Fields(want)
		if most > 0 {
			some = some[:most]
		}
		if strings.Join(got, " ") != strings.Join(some, " ") {
			t.Errorf("Records, left at %d, are %v", most, got)
		}
	}
	for r := range fold.Records(l[2:3]) {
		if want := rec(r.Offset, []string{"a=2", "b", "c=3", "=empty"}[r.Offset-30]); record(r) != record(want) {
			t.Errorf("a record is %s, not %s", record(r), record(want))
		}
	}
	for range fold.Records(nil) {
		t.Error("Records of nothing")
	}
}

func TestOfIsTheLastOfEachKey(t *testing.T) { // P13.1
	for _, c := range []struct {
		l    []api.Batch
		want string
	}{
		{nil, ""}, {[]api.Batch{of(0)}, ""}, {[]api.Batch{of(0, "a=1", "a=2", "b")}, "a=2@1"}, {some(), "=empty@33 a=2@30 c=4@51"},
		{[]api.Batch{of(0, "a=1", "a")}, ""}, {[]api.Batch{of(0, "a", "a=1")}, "a=1@1"}, {[]api.Batch{of(0, "a=", "b=")}, "a=@0 b=@1"}, {[]api.Batch{of(0, "-=1", "-")}, ""},
		{[]api.Batch{of(9, "b=new", "B=1", "\xff=2", "=3", "a\x00=4", "a=5"), of(0, "b=old")}, "=3@12 B=1@10 a=5@14 a\x00=4@13 b=old@0 \xff=2@11"},
		{[]api.Batch{{Records: []api.Record{{HasKey: true, Key: []byte("k"), Value: []byte("v")}}}}, ""},
		{[]api.Batch{{Records: []api.Record{{HasValue: true, Key: []byte("k"), Value: []byte("v")}}}}, ""},
	} {
		if got := pairs(fold.Batches(c.l)); got != c.want {
			t.Errorf("Batches is %q, not %q", got, c.want)
		}
		if got := pairs(fold.Of(fold.Records(c.l))); got != c.want {
			t.Errorf("Of is %q, not %q", got, c.want)
		}
	}
	if l := fold.Of(nil); len(l) != 0 {
		t.Errorf("Of no iterator is %v", l)
	}
}

func TestOfKeepsNothingOfTheWalk(t *testing.T) { // P13.1, P13.3
	key, value := []byte("aaa"), []byte("111")
	got := fold.Of(func(yield func(api.Record) bool) {
		for i := range 3 {
			key[0], value[0] = byte('a'+i), byte('1'+i)
			if !yield(api.Record{Offset: i, HasKey: true, Key: key, HasValue: true, Value: value}) {
				t.Error("the walk is left")
			}
		}
		clear(key)
		clear(value)
	})
	if pairs(got) != "aaa=111@0 baa=211@1 caa=311@2" {
		t.Errorf("Of is %q", pairs(got))
	}
}

func TestSame(t *testing.T) { // P13.1
	a := fold.Batches(some())
	if !fold.Same(a, fold.Batches(some())) || !fold.Same(nil, []fold.Pair{}) || !fold.Same([]fold.Pair{{Key: nil}}, []fold.Pair{{Value: []byte{}, Offset: 7}}) {
		t.Error("two that are the same are not")
	}
	for what, turn := range map[string]func(l []fold.Pair) []fold.Pair{
		"another key":   func(l []fold.Pair) []fold.Pair { l[1].Key = []byte("aa"); return l },
		"another value": func(l []fold.Pair) []fold.Pair { l[2].Value = nil; return l },
		"one fewer":     func(l []fold.Pair) []fold.Pair { return l[:2] },
		"one more":      func(l []fold.Pair) []fold.Pair { return append(l, fold.Pair{}) },
		"other places":  func(l []fold.Pair) []fold.Pair { l[0], l[1] = l[1], l[0]; return l },
	} {
		if b := turn(fold.Batches(some())); fold.Same(a, b) || fold.Same(b, a) {
			t.Errorf("%s is the same", what)
		}
	}
	b := fold.Batches(some())
	b[0].Offset = 99
	if !fold.Same(a, b) {
		t.Error("Offsets are asked")
	}
}

func TestRestrict(t *testing.T) { // P13.2
	for _, c := range []struct {
		from, to int
		want     string
	}{
		{math.MinInt, math.MaxInt, batches([]api.Batch{some()[0], some()[2], some()[3]})},
		{0, 53, batches([]api.Batch{some()[0], some()[2], some()[3]})},
		{1, 2, "0-10/1.2.3: 1.0.true.a.true.1"},
		{2, 31, "0-10/1.2.3: 2.0.false..true.x 30-40/31.2.3: 30.0.true.a.true.2"},
		{33, 50, "30-40/31.2.3: 33.0.true..true.empty"},
		{3, 30, ""}, {31, 31, ""}, {40, 20, ""}, {53, 90, ""}, {math.MaxInt, math.MinInt, ""},
	} {
		if got := batches(fold.Restrict(some(), c.from, c.to)); got != c.want {
			t.Errorf("Restrict from %d to %d is %q, not %q", c.from, c.to, got, c.want)
		}
	}
	if got := fold.Restrict(nil, 0, 9); len(got) != 0 {
		t.Errorf("Restrict of nothing is %v", got)
	}
}

func TestFoldKeepsAndSharesNothing(t *testing.T) { // P13.3
	l, want := some(), batches(some())
	it := fold.Records(l)
	for r := range it {
		clear(r.Key)
		clear(r.Value)
	}
	for _, p := range fold.Batches(l) {
		clear(p.Key)
		clear(p.Value)
	}
	for _, b := range fold.Restrict(l, 0, 100) {
		clear(b.Records[0].Key)
		b.Records[1] = api.Record{}
	}
	if got := batches(l); got != want {
		t.Errorf("what was handed in is %q now", got)
	}
	clear(l[0].Records[0].Value)
	l[0].Records[1] = api.Record{}
	l[2] = api.Batch{}
	var got []string
	for r := range it {
		got = append(got, record(r))
	}
	var kept []string
	for r := range fold.Records(some()) {
		kept = append(kept, record(r))
	}
	if strings.Join(got, " ") != strings.Join(kept, " ") {
		t.Errorf("a walk shows %v, not %v", got, kept)
	}
}
