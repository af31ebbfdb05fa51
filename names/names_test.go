package names_test

import (
	"math"
	"slices"
	"strings"
	"testing"

	"cordwain/api"
	"cordwain/names"
)

func TestTopic(t *testing.T) { // P8.1
	for _, s := range []string{"a", "z", "0", "9", "topic1", "0a", strings.Repeat("q", 20)} {
		if !names.Topic(s) {
			t.Errorf("%q may not be", s)
		}
	}
	for _, s := range []string{"", strings.Repeat("q", 21), "A", "Z", "a-b", "a b", "`", "{", "/", ":", "a.", "é", "a\x00", "a\n", "-"} {
		if names.Topic(s) {
			t.Errorf("%q may be", s)
		}
	}
}

func TestDir(t *testing.T) { // P8.1
	for _, c := range []struct {
		topic string
		part  int
		want  string
	}{
		{"a", 0, "a-0"}, {"topic1", 10, "topic1-10"}, {"7", 999, "7-999"},
		{"", 0, ""}, {"A", 0, ""}, {"a", -1, ""}, {"a", 1000, ""}, {"a", math.MaxInt, ""}, {"a", math.MinInt, ""}, {"a-0", 0, ""},
	} {
		got, e := names.Dir(c.topic, c.part)
		if got != c.want || (e == api.OK) != (c.want != "") || e != api.OK && e != api.ErrArg {
			t.Errorf("Dir(%q, %d) is %q, %d", c.topic, c.part, got, e)
		}
	}
}

func kinds() []string {
	return []string{"log", "idx", "tim", "snap", "cleaned", "swap"}
}

func TestSegment(t *testing.T) { // P8.1
	if got, e := names.Segment("a-0", 0, "log"); got != "a-0/00000000000000000000.log" || e != api.OK {
		t.Errorf("Segment is %q, %d", got, e)
	}
	if got, e := names.Segment("topic1-999", 1<<62, "cleaned"); got != "topic1-999/04611686018427387904.cleaned" || e != api.OK {
		t.Errorf("Segment is %q, %d", got, e)
	}
	for _, kind := range kinds() {
		if got, e := names.Segment("a-0", 1234, kind); got != "a-0/00000000000000001234."+kind || e != api.OK {
			t.Errorf("Segment is %q, %d", got, e)
		}
	}
	for _, c := range []struct {
		dir  string
		base int
		kind string
	}{
		{"a-0", -1, "log"}, {"a-0", 1<<62 + 1, "log"}, {"a-0", math.MinInt, "log"}, {"a-0", 0, ""}, {"a-0", 0, "Log"}, {"a-0", 0, ".log"}, {"a-0", 0, "other"},
		{"", 0, "log"}, {"a", 0, "log"}, {"a-", 0, "log"}, {"-0", 0, "log"}, {"a-00", 0, "log"}, {"a-01", 0, "log"}, {"a-1000", 0, "log"}, {"a--1", 0, "log"}, {"a-+1", 0, "log"}, {"a-1-1", 0, "log"}, {"a-1/", 0, "log"}, {"A-1", 0, "log"}, {"a- 1", 0, "log"}, {"a-99999999999999999999", 0, "log"}, {"a-1_0", 0, "log"},
	} {
		if got, e := names.Segment(c.dir, c.base, c.kind); got != "" || e != api.ErrArg {
			t.Errorf("Segment(%q, %d, %q) is %q, %d", c.dir, c.base, c.kind, got, e)
		}
	}
}

func TestParse(t *testing.T) { // P8.1
	for _, dir := range []string{"a-0", "x9-10", "aaaaaaaaaaaaaaaaaaaa-999"} {
		for _, base := range []int{0, 1, 99, 1 << 40, 1 << 62} {
			for _, kind := range kinds() {
				name, _ := names.Segment(dir, base, kind)
				if d, b, k, ok := names.Parse(name); d != dir || b != base || k != kind || !ok {
					t.Errorf("Parse(%q) is %q, %d, %q, %v", name, d, b, k, ok)
				}
			}
		}
	}
	for _, name := range []string{
		"", "/", ".", "a-0", "a-0/", "a-0/.log", "a-0/0.log", "a-0/0000000000000000000.log", "a-0/000000000000000000000.log", "a-0/00000000000000000000", "a-0/00000000000000000000.", "a-0/00000000000000000000.logs", "a-0/00000000000000000000.log.log",
		"a-0/04611686018427387905.log", "a-0/18446744073709551616.log", "a-0/+0000000000000000001.log", "a-0/-0000000000000000001.log", "a-0/0000000000_000000001.log", "a-0/0000000000000000000a.log",
		"a/00000000000000000000.log", "a-00/00000000000000000000.log", "A-0/00000000000000000000.log", "/00000000000000000000.log", "a-0//00000000000000000000.log", "a-0/b-0/00000000000000000000.log", " a-0/00000000000000000000.log", "a-0/00000000000000000000.log ", "a-0/00000000000000000000.log\n",
	} {
		if d, b, k, ok := names.Parse(name); d != "" || b != 0 || k != "" || ok {
			t.Errorf("Parse(%q) is %q, %d, %q, %v", name, d, b, k, ok)
		}
	}
}

func walk(it func(func(int) bool), most int) (l []int) {
	for base := range it {
		if l = append(l, base); len(l) == most {
			break
		}
	}
	return l
}

func files() []string {
	var l []string
	for _, dir := range []string{"b-1", "a-10", "a-1"} {
		for _, kind := range []string{"snap", "log"} {
			for _, base := range []int{100, 20, 3, 20, 1 << 62, 100} {
				name, _ := names.Segment(dir, base+len(dir), kind)
				l = append(l, name, name+"x")
			}
		}
	}
	return append(l, "", "a-1/7.log", "topics")
}

func TestBases(t *testing.T) { // P8.2
	want := []int{6, 23, 103}
	if got := walk(names.Bases(files(), "a-1", "log"), -1); !slices.Equal(got, want) {
		t.Errorf("Bases are %v", got)
	}
	if got := walk(names.Bases(files(), "a-10", "snap"), -1); !slices.Equal(got, []int{7, 24, 104}) {
		t.Errorf("Bases are %v", got)
	}
	for _, c := range [][2]string{{"a-2", "log"}, {"a-1", "idx"}, {"a-1", ""}, {"", "log"}, {"", ""}, {"a", "log"}} {
		if got := walk(names.Bases(files(), c[0], c[1]), -1); len(got) != 0 {
			t.Errorf("Bases of %q are %v", c, got)
		}
	}
	if got := walk(names.Bases(nil, "a-1", "log"), -1); len(got) != 0 {
		t.Errorf("Bases of nothing are %v", got)
	}
	l := files()
	it := names.Bases(l, "a-1", "log")
	for i := range l {
		l[i] = "z"
	}
	if got := walk(it, 2); !slices.Equal(got, want[:2]) {
		t.Errorf("Bases, left early, are %v", got)
	}
	if got := walk(it, -1); !slices.Equal(got, want) {
		t.Errorf("Bases, walked again, are %v", got)
	}
	l = files()
	walk(names.Bases(l, "a-1", "log"), -1)
	if !slices.Equal(l, files()) {
		t.Error("what was handed in is changed")
	}
}

func TestNamesStandAsTheirBasesDo(t *testing.T) { // P8.3
	var l []string
	for _, base := range []int{0, 1, 9, 10, 99, 100, 12345, 1 << 40, 1 << 61, 1 << 62} {
		name, _ := names.Segment("a-0", base, "log")
		l = append(l, name)
	}
	if !slices.IsSorted(l) {
		t.Errorf("%q do not rise", l)
	}
}
