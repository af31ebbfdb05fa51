package commits_test

import (
	"fmt"
	"math"
	"math/rand"
	"strings"
	"testing"

	"cordwain/api"
	"cordwain/clean"
	"cordwain/commits"
)

func entry(group, topic string, part, offset int) commits.Entry {
	return commits.Entry{Group: group, Topic: topic, Part: part, Offset: offset}
}

// told is all entries of a table, as a text.
func told(t *commits.Table) string {
	var l []string
	for e := range t.All() {
		l = append(l, fmt.Sprintf("%s/%s/%d=%d", e.Group, e.Topic, e.Part, e.Offset))
	}
	return strings.Join(l, " ")
}

func long() string { return strings.Repeat("q", 20) }

// entries are some, with whether they may be.
func entries() map[commits.Entry]bool {
	return map[commits.Entry]bool{
		entry("g", "t", 0, 0): true, entry("0", "9", 999, 1<<62): true, entry(long(), long(), 7, 7): true,
		entry("", "t", 0, 0): false, entry("g", "", 0, 0): false, entry(long()+"q", "t", 0, 0): false, entry("g", long()+"q", 0, 0): false,
		entry("G", "t", 0, 0): false, entry("g", "T", 0, 0): false, entry("g-", "t", 0, 0): false, entry("g", "t t", 0, 0): false,
		entry("g", "t", -1, 0): false, entry("g", "t", 1000, 0): false, entry("g", "t", 0, -1): false, entry("g", "t", 0, 1<<62+1): false, entry("g", "t", math.MinInt, math.MaxInt): false,
	}
}

func TestPutAndGet(t *testing.T) { // P18.1
	for e, may := range entries() {
		table := commits.New()
		got := table.Put(e)
		offset, ok := table.Get(e.Group, e.Topic, e.Part)
		if may && (got != api.OK || offset != e.Offset || !ok) {
			t.Errorf("Put(%v) is %d, and Get %d, %v", e, got, offset, ok)
		}
		if !may && (got != api.ErrArg || offset != 0 || ok || told(table) != "") {
			t.Errorf("Put(%v) is %d, and Get %d, %v", e, got, offset, ok)
		}
	}
	table := commits.New()
	for _, e := range []commits.Entry{entry("g", "t", 3, 9), entry("g", "t", 3, 5), entry("g", "t", 4, 6)} {
		if e := table.Put(e); e != api.OK {
			t.Fatal(e)
		}
	}
	if told(table) != "g/t/3=5 g/t/4=6" {
		t.Errorf("the table is %q", told(table))
	}
	for _, c := range []commits.Entry{entry("g", "t", 5, 0), entry("t", "g", 3, 0), entry("gt", "", 3, 0)} {
		if offset, ok := table.Get(c.Group, c.Topic, c.Part); offset != 0 || ok {
			t.Errorf("Get of none is %d, %v", offset, ok)
		}
	}
}

func TestGenRaisesTheFloor(t *testing.T) { // P18.1
	table := commits.New()
	for _, c := range []struct {
		group string
		gen   int
		want  api.Errno
		floor int
	}{
		{"g", 0, api.OK, 0}, {"g", 5, api.OK, 5}, {"g", 3, api.OK, 5}, {"g", 5, api.OK, 5}, {"g", 6, api.OK, 6}, {"h", 1 << 40, api.OK, 1 << 40}, {"g", -1, api.ErrArg, 6}, {"g", 1<<40 + 1, api.ErrArg, 6}, {"", 5, api.ErrArg, 0}, {"G", 5, api.ErrArg, 0}, {long() + "q", 5, api.ErrArg, 0}, {long(), 5, api.OK, 5},
	} {
		if e := table.Gen(c.group, c.gen); e != c.want || table.Floor(c.group) != c.floor {
			t.Errorf("Gen(%q, %d) is %d, and Floor %d", c.group, c.gen, e, table.Floor(c.group))
		}
	}
	if table.Floor("none") != 0 || told(table) != "" {
		t.Error("a floor of none, or an entry")
	}
}

func TestAllIsInOrder(t *testing.T) { // P18.1
	table := commits.New()
	it := table.All()
	for _, e := range []commits.Entry{entry("b", "a", 1, 1), entry("a", "b", 10, 2), entry("a", "b", 9, 3), entry("a", "ab", 0, 4), entry("a0", "a", 0, 5), entry("a", "a", 999, 6)} {
		if e := table.Put(e); e != api.OK {
			t.Fatal(e)
		}
	}
	want := strings.Fields("a/a/999=6 a/ab/0=4 a/b/9=3 a/b/10=2 a0/a/0=5 b/a/1=1")
	if told(table) != strings.Join(want, " ") {
		t.Errorf("All is %q", told(table))
	}
	for range 2 {
		n := 0
		for e := range it {
			if n++; e.Part == 9 {
				break
			}
		}
		if n != 3 {
			t.Errorf("a walk that is left at the third has %d", n)
		}
	}
}

func same(a, b api.Record) bool { return fmt.Sprint(a) == fmt.Sprint(b) }

func TestRecords(t *testing.T) { // P18.2
	r, e := commits.Record(entry("grp", "a0", 70, 8192), 44)
	if want := (api.Record{Time: 44, HasKey: true, Key: []byte("\x02o\x06grp\x04a0\x8c\x01"), HasValue: true, Value: []byte{128, 128, 1}}); !same(r, want) || e != api.OK {
		t.Errorf("Record is %v, %d", r, e)
	}
	r, e = commits.GenRecord("grp", 65, 1<<50)
	if want := (api.Record{Time: 1 << 50, HasKey: true, Key: []byte("\x02g\x06grp"), HasValue: true, Value: []byte{130, 1}}); !same(r, want) || e != api.OK {
		t.Errorf("GenRecord is %v, %d", r, e)
	}
	for x, may := range entries() {
		if r, e := commits.Record(x, 0); (e == api.OK) != may || !may && (e != api.ErrArg || !same(r, api.Record{})) {
			t.Errorf("Record(%v) is %v, %d", x, r, e)
		}
	}
	for _, now := range []int{-1, 1<<50 + 1, math.MinInt} {
		a, e := commits.Record(entry("g", "t", 0, 0), now)
		b, f := commits.GenRecord("g", 0, now)
		if e != api.ErrArg || f != api.ErrArg || !same(a, api.Record{}) || !same(b, api.Record{}) {
			t.Errorf("records at %d are %d, %d", now, e, f)
		}
	}
	for group, gen := range map[string]int{"": 1, "G": 1, long() + "q": 1, "a": -1, "b": 1<<40 + 1} {
		if r, e := commits.GenRecord(group, gen, 0); e != api.ErrArg || !same(r, api.Record{}) {
			t.Errorf("GenRecord(%q, %d) is %d", group, gen, e)
		}
	}
	if _, e := commits.GenRecord(long(), 1<<40, 0); e != api.OK {
		t.Errorf("the greatest GenRecord is %d", e)
	}
}

func record(t *testing.T, e commits.Entry) api.Record {
	t.Helper()
	r, err := commits.Record(e, 1)
	if err != api.OK {
		t.Fatal(err)
	}
	return r
}

func genRecord(t *testing.T, group string, gen int) api.Record {
	t.Helper()
	r, err := commits.GenRecord(group, gen, 1)
	if err != api.OK {
		t.Fatal(err)
	}
	return r
}

func TestApply(t *testing.T) { // P18.2, P18.3
	table := commits.New()
	for _, c := range []struct {
		r     api.Record
		want  string
		floor int
	}{
		{record(t, entry("g", "t", 0, 5)), "g/t/0=5", 0},
		{record(t, entry("g", "u", 999, 1<<62)), "g/t/0=5 g/u/999=4611686018427387904", 0},
		{record(t, entry("g", "t", 0, 3)), "g/t/0=3 g/u/999=4611686018427387904", 0},
		{genRecord(t, "g", 7), "g/t/0=3 g/u/999=4611686018427387904", 7},
		{genRecord(t, "g", 6), "g/t/0=3 g/u/999=4611686018427387904", 7},
		{api.Record{HasKey: true, Key: record(t, entry("g", "u", 999, 0)).Key}, "g/t/0=3", 7},
		{api.Record{HasKey: true, Key: record(t, entry("g", "u", 1, 0)).Key, Time: -7, Offset: -7}, "g/t/0=3", 7},
		{api.Record{HasKey: true, Key: genRecord(t, "h", 0).Key}, "g/t/0=3", 7},
		{api.Record{HasKey: true, Key: genRecord(t, "g", 0).Key}, "g/t/0=3", 0},
		{genRecord(t, "g", 2), "g/t/0=3", 2},
	} {
		if e := table.Apply(c.r); e != api.OK || told(table) != c.want || table.Floor("g") != c.floor {
			t.Errorf("Apply(%v) is %d: %q, %d", c.r, e, told(table), table.Floor("g"))
		}
	}
}

func TestApplyRefuses(t *testing.T) { // P18.2
	o, g := record(t, entry("g", "t", 0, 5)), genRecord(t, "g", 7)
	keyed := func(r api.Record, key string) api.Record { r.Key = []byte(key); return r }
	valued := func(r api.Record, value ...byte) api.Record { r.Value = value; return r }
	for what, r := range map[string]api.Record{
		"nothing":                   {},
		"no key":                    {Key: o.Key, HasValue: true, Value: o.Value},
		"an empty key":              keyed(o, ""),
		"another word":              keyed(o, "\x02x\x02g\x02t\x00"),
		"a longer word":             keyed(o, "\x04oo\x02g\x02t\x00"),
		"no word":                   keyed(o, "\x00\x02g\x02t\x00"),
		"no topic":                  keyed(o, "\x02o\x02g"),
		"an empty topic":            keyed(o, "\x02o\x02g\x00\x00"),
		"an empty group":            keyed(o, "\x02o\x00\x02t\x00"),
		"no part":                   keyed(o, "\x02o\x02g\x02t"),
		"a part below 0":            keyed(o, "\x02o\x02g\x02t\x01"),
		"a part above":              keyed(o, "\x02o\x02g\x02t\xd0\x0f"),
		"more behind the part":      keyed(o, "\x02o\x02g\x02t\x00\x00"),
		"a number not the shortest": keyed(o, "\x02o\x02g\x02t\x80\x00"),
		"a great group":             keyed(o, "\x02o\x02G\x02t\x00"),
		"a great topic":             keyed(o, "\x02o\x02g\x02T\x00"),
		"a long topic":              keyed(o, "\x02o\x02g\x2a"+strings.Repeat("t", 21)+"\x00"),
		"no value in it":            valued(o),
		"an offset below 0":         valued(o, 1),
		"an offset above":           valued(o, 130, 128, 128, 128, 128, 128, 128, 128, 128, 1),
		"more behind the offset":    valued(o, 0, 0),
		"an unended offset":         valued(o, 128),
		"no group":                  keyed(g, "\x02g"),
		"an empty group of a floor": keyed(g, "\x02g\x00"),
		"a great group of a floor":  keyed(g, "\x02g\x02G"),
		"more behind the group":     keyed(g, "\x02g\x02g\x00"),
		"no generation":             valued(g),
		"a generation below 0":      valued(g, 1),
		"a generation above":        valued(g, 130, 128, 128, 128, 128, 128, 1),
		"more behind it":            valued(g, 0, 0),
	} {
		table := commits.New()
		if e := table.Put(entry("g", "t", 0, 99)); e != api.OK {
			t.Fatal(e)
		}
		if e := table.Gen("g", 99); e != api.OK {
			t.Fatal(e)
		}
		if e := table.Apply(r); e != api.ErrBad || told(table) != "g/t/0=99" || table.Floor("g") != 99 {
			t.Errorf("%s: %d: %q, %d", what, e, told(table), table.Floor("g"))
		}
		if r.HasKey {
			r.HasValue, r.Value = false, nil
			bad := what != "no value in it" && !strings.Contains(what, "offset") && what != "more behind it" && !strings.Contains(what, "generation")
			if e := table.Apply(r); (e == api.ErrBad) != bad || bad && told(table) != "g/t/0=99" {
				t.Errorf("%s, without a value: %d", what, e)
			}
		}
	}
	if e := commits.New().Apply(valued(o, 128, 128, 128, 128, 128, 128, 128, 128, 128, 1)); e != api.OK {
		t.Errorf("the greatest offset is %d", e)
	}
}

func TestRecordsMakeTheTable(t *testing.T) { // P18.3
	for seed := range 100 {
		r := rand.New(rand.NewSource(int64(seed)))
		table := commits.New()
		segments := [][]api.Batch{nil}
		gens := [3]int{}
		for i := range 60 {
			var one api.Record
			group := string(rune('a' + r.Intn(3)))
			switch k := r.Intn(4); {
			case k < 3:
				e := entry(group, string(rune('t'+r.Intn(3))), r.Intn(2), r.Intn(100))
				if table.Put(e) != api.OK {
					t.Fatal("Put")
				}
				one = record(t, e)
			default:
				gens[group[0]-'a'] += r.Intn(3)
				if table.Gen(group, gens[group[0]-'a']) != api.OK {
					t.Fatal("Gen")
				}
				one = genRecord(t, group, gens[group[0]-'a'])
			}
			one.Offset = i
			if r.Intn(10) == 0 {
				segments = append(segments, nil)
			}
			last := len(segments) - 1
			segments[last] = append(segments[last], api.Batch{Base: i, Last: i, Records: []api.Record{one}})
		}
		cleaned, _, _ := clean.All(segments, 0, api.Config{MapMost: 1 + seed%30, Grace: 5}, 1000)
		for _, l := range [][][]api.Batch{segments, cleaned} {
			again := commits.New()
			for _, batches := range l {
				for _, b := range batches {
					for _, one := range b.Records {
						if e := again.Apply(one); e != api.OK {
							t.Fatal(e)
						}
					}
				}
			}
			if !commits.Same(again, table) || told(again) != told(table) {
				t.Fatalf("seed %d: %q, not %q", seed, told(again), told(table))
			}
		}
	}
}

func TestSame(t *testing.T) {
	made := func(offset, gen int) *commits.Table {
		table := commits.New()
		if offset >= 0 {
			table.Put(entry("g", "t", 0, offset))
		}
		table.Gen("g", gen)
		return table
	}
	if !commits.Same(made(5, 7), made(5, 7)) || !commits.Same(made(-1, 0), commits.New()) || !commits.Same(nil, nil) {
		t.Error("two that are the same are not")
	}
	for _, other := range []*commits.Table{made(6, 7), made(5, 8), made(-1, 7), made(5, 0)} {
		if commits.Same(made(5, 7), other) || commits.Same(other, made(5, 7)) {
			t.Error("two that are others are the same")
		}
	}
	if commits.Same(nil, made(5, 7)) || commits.Same(made(5, 7), nil) {
		t.Error("a nil one is the same as another")
	}
}

func TestNilTable(t *testing.T) { // P18.3
	var table *commits.Table
	offset, ok := table.Get("g", "t", 0)
	if table.Put(entry("g", "t", 0, 0)) != api.ErrArg || table.Gen("g", 1) != api.ErrArg || table.Apply(record(t, entry("g", "t", 0, 0))) != api.ErrArg || table.Apply(api.Record{}) != api.ErrArg || offset != 0 || ok || table.Floor("g") != 0 || told(table) != "" {
		t.Error("a nil Table has something")
	}
	zero := new(commits.Table)
	if zero.Put(entry("g", "t", 0, 0)) != api.OK || zero.Gen("g", 1) != api.OK || told(zero) != "g/t/0=0" || zero.Floor("g") != 1 {
		t.Error("a zero Table takes nothing")
	}
}

func TestTableKeepsNothing(t *testing.T) { // P18.3
	table := commits.New()
	r := record(t, entry("g", "t", 0, 5))
	want := fmt.Sprint(r)
	if e := table.Apply(r); e != api.OK || fmt.Sprint(r) != want {
		t.Errorf("Apply is %d, or changes the record", e)
	}
	clear(r.Key)
	clear(r.Value)
	if told(table) != "g/t/0=5" || fmt.Sprint(record(t, entry("g", "t", 0, 5))) != want {
		t.Error("a record is kept, or shared")
	}
}
