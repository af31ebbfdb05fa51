package script_test

import (
	"fmt"
	"math"
	"slices"
	"strings"
	"testing"

	"cordwain/api"
	"cordwain/script"
)

// lines are some of each kind, as ops.
func lines() map[string]script.Op {
	req := func(r api.Request) script.Op { return script.Op{Kind: r.Kind, Req: r} }
	long := strings.Repeat("q", 100)
	return map[string]script.Op{
		"create a 2":                   req(api.Request{Kind: 1, Topic: "a", Part: 2}),
		"create " + long + " 0":        req(api.Request{Kind: 1, Topic: long}),
		"delete a-1\t!":                req(api.Request{Kind: 2, Topic: "a-1\t!"}),
		"delete xyz":                   req(api.Request{Kind: 2, Topic: "xyz"}),
		"topics":                       {Kind: 3, Req: api.Request{Kind: 3}},
		"produce a 1 00ff7a":           req(api.Request{Kind: 4, Topic: "a", Part: 1, Data: []byte{0, 255, 0x7a}}),
		"produce a 1 -":                req(api.Request{Kind: 4, Topic: "a", Part: 1}),
		"fetch a 1 2 3":                req(api.Request{Kind: 5, Topic: "a", Part: 1, Offset: 2, Max: 3}),
		"list a 1 1125899906842624":    req(api.Request{Kind: 6, Topic: "a", Part: 1, Time: 1 << 50}),
		"trim a 1 7":                   req(api.Request{Kind: 7, Topic: "a", Part: 1, Offset: 7}),
		"join g - a":                   req(api.Request{Kind: 8, Group: "g", Names: []string{"a"}}),
		"join g m1 a b --":             req(api.Request{Kind: 8, Group: "g", Member: "m1", Names: []string{"a", "b", "--"}}),
		"sync g m1 5":                  req(api.Request{Kind: 9, Group: "g", Member: "m1", Gen: 5}),
		"sync g - 5":                   req(api.Request{Kind: 9, Group: "g", Gen: 5}),
		"beat g m1 5":                  req(api.Request{Kind: 10, Group: "g", Member: "m1", Gen: 5}),
		"leave g m1":                   req(api.Request{Kind: 11, Group: "g", Member: "m1"}),
		"leave g -":                    req(api.Request{Kind: 11, Group: "g"}),
		"commit g m1 5 a 1 9":          req(api.Request{Kind: 12, Group: "g", Member: "m1", Gen: 5, Topic: "a", Part: 1, Offset: 9}),
		"offset g a 1":                 req(api.Request{Kind: 13, Group: "g", Topic: "a", Part: 1}),
		"producer 6":                   req(api.Request{Kind: 14, Offset: 6}),
		"raw 0102":                     {Kind: 15, Data: []byte{1, 2}},
		"raw -":                        {Kind: 15},
		"carry 3":                      {Kind: 16, N: 3},
		"answer 3":                     {Kind: 17, N: 3},
		"lose 3 out":                   {Kind: 18, N: 3},
		"lose 3 back":                  {Kind: 18, N: 3, Back: true},
		"double 4 out":                 {Kind: 19, N: 4},
		"double 4 back":                {Kind: 19, N: 4, Back: true},
		"tick 1125899906842624":        {Kind: 20, N: 1 << 50},
		"cut 0":                        {Kind: 21},
		"restart":                      {Kind: 22},
		"restart 5":                    {Kind: 22, L: []int{5}},
		"restart 5 0 1125899906842624": {Kind: 22, L: []int{5, 0, 1 << 50}},
		"waits out":                    {Kind: 23},
		"waits back":                   {Kind: 23, Back: true},
	}
}

func told(o script.Op) string { return fmt.Sprintf("%v", o) }

func TestParseAndText(t *testing.T) { // P26.1, P26.3
	for s, o := range lines() {
		if got := script.Text(o); got != s {
			t.Errorf("Text is %q, not %q", got, s)
		}
		if got, e := script.Parse(s); e != api.OK || told(got) != told(o) {
			t.Errorf("Parse(%q) is %v, %d, not %v", s, got, e, o)
		}
	}
}

func TestTextAsksForItsFieldsAlone(t *testing.T) { // P26.1, P26.3
	all := script.Op{Req: api.Request{Kind: 77, Corr: -1, Client: "c", Topic: "t", Part: 1, Offset: 2, Time: 3, Max: 4, Group: "g", Member: "m", Gen: 5, Names: []string{"n"}, Data: []byte{6}}, N: 7, Back: true, L: []int{8, 9}, Data: []byte{10}}
	for kind, want := range strings.Split("|create t 1|delete t|topics|produce t 1 06|fetch t 1 2 4|list t 1 3|trim t 1 2|join g m n|sync g m 5|beat g m 5|leave g m|commit g m 5 t 1 2|offset g t 1|producer 2|raw 0a|carry 7|answer 7|lose 7 back|double 7 back|tick 7|cut 7|restart 8 9|waits back|", "|") {
		all.Kind = kind
		if got := script.Text(all); got != want {
			t.Errorf("Text of kind %d is %q, not %q", kind, got, want)
		}
	}
	for _, kind := range []int{-1, 24, 25, math.MaxInt, math.MinInt} {
		all.Kind = kind
		if got := script.Text(all); got != "" {
			t.Errorf("Text of kind %d is %q", kind, got)
		}
	}
}

func TestTextOfWhatMayNotBe(t *testing.T) { // P26.1
	long := strings.Repeat("q", 101)
	turns := map[int][]func(o *script.Op){
		1:  {func(o *script.Op) { o.Req.Topic = "" }, func(o *script.Op) { o.Req.Topic = "-" }, func(o *script.Op) { o.Req.Topic = "a b" }, func(o *script.Op) { o.Req.Topic = "a\n" }, func(o *script.Op) { o.Req.Topic = long }, func(o *script.Op) { o.Req.Part = -1 }, func(o *script.Op) { o.Req.Part = 1<<50 + 1 }},
		2:  {func(o *script.Op) { o.Req.Topic = "" }},
		4:  {func(o *script.Op) { o.Req.Data = make([]byte, 1<<16+1) }, func(o *script.Op) { o.Req.Part = -1 }},
		5:  {func(o *script.Op) { o.Req.Offset = -1 }, func(o *script.Op) { o.Req.Max = -1 }, func(o *script.Op) { o.Req.Max = math.MaxInt }},
		6:  {func(o *script.Op) { o.Req.Time = -1 }, func(o *script.Op) { o.Req.Time = 1<<50 + 1 }},
		8:  {func(o *script.Op) { o.Req.Group = "" }, func(o *script.Op) { o.Req.Group = "-" }, func(o *script.Op) { o.Req.Member = "-" }, func(o *script.Op) { o.Req.Member = " " }, func(o *script.Op) { o.Req.Member = long }, func(o *script.Op) { o.Req.Names = nil }, func(o *script.Op) { o.Req.Names = []string{"a", ""} }, func(o *script.Op) { o.Req.Names = []string{"-"} }, func(o *script.Op) { o.Req.Names = []string{"a", "b c"} }, func(o *script.Op) { o.Req.Names = []string{long} }, func(o *script.Op) { o.Req.Names = slices.Repeat([]string{"a"}, 31) }},
		12: {func(o *script.Op) { o.Req.Gen = -1 }, func(o *script.Op) { o.Req.Offset = 1 << 62 }},
		14: {func(o *script.Op) { o.Req.Offset = -1 }},
		15: {func(o *script.Op) { o.Data = make([]byte, 1<<16+1) }},
		16: {func(o *script.Op) { o.N = -1 }, func(o *script.Op) { o.N = 1<<50 + 1 }},
		22: {func(o *script.Op) { o.L = []int{1, -1} }, func(o *script.Op) { o.L = []int{1<<50 + 1, 1} }},
	}
	for kind, l := range turns {
		for i, turn := range l {
			o := script.Op{Kind: kind, Req: api.Request{Kind: kind, Topic: "t", Group: "g", Names: []string{"n"}}}
			if script.Text(o) == "" {
				t.Fatalf("kind %d has no text", kind)
			}
			turn(&o)
			if got := script.Text(o); got != "" {
				t.Errorf("Text of kind %d, turn %d, is %q", kind, i, got)
			}
		}
	}
	o := script.Op{Kind: 8, Req: api.Request{Group: "g", Names: slices.Repeat([]string{strings.Repeat("q", 100)}, 30)}}
	if got, e := script.Parse(script.Text(o)); e != api.OK || len(got.Req.Names) != 30 {
		t.Errorf("thirty names are %d", e)
	}
	for _, kind := range []int{4, 15} {
		o := script.Op{Kind: kind, Req: api.Request{Topic: "t", Data: make([]byte, 1<<16)}, Data: make([]byte, 1<<16)}
		if got, e := script.Parse(script.Text(o)); e != api.OK || len(got.Data)+len(got.Req.Data) != 1<<16 {
			t.Errorf("the most bytes are %d", e)
		}
	}
}

func TestParseRefuses(t *testing.T) { // P26.1
	long := strings.Repeat("q", 101)
	for _, s := range []string{
		"", " ", "-", "none", "creat a 2", "createa 2", "Create a 2", "create", "create a", "create a 2 3", "create a 2 ", " create a 2", "create  a 2", "create a  2", "create a 2\n", "create a\t2",
		"create a -1", "create a +1", "create a 01", "create a 00", "create a x", "create a 1x", "create a 0x1", "create a 1_0", "create a ", "create a 1125899906842625", "create a 9223372036854775808", "create a 99999999999999999999", "create - 1", "create  1", "create " + long + " 1", "create a\nb 1", "create a 1.0",
		"delete", "delete -", "delete a b", "topics ", "topics a", "topic",
		"produce a 0", "produce a 0 ", "produce a 0 0", "produce a 0 000", "produce a 0 0G", "produce a 0 FF", "produce a 0 fF", "produce a 0 --", "produce a 0 -0", "produce a 0 00 00", "produce a 0 " + strings.Repeat("00", 1<<16+1),
		"fetch a 0 0", "fetch a 0 0 0 0", "list a 0", "trim a 0", "join g m", "join g m ", "join g m -", "join g m a -", "join g m a  b", "join - m a", "join g m" + strings.Repeat(" a", 31), "join g  a", "join g m " + long,
		"sync g m", "sync g m -", "sync g m 1 2", "sync g 1", "beat g m x", "leave g", "leave g m 1", "commit g m 1 a 0", "commit g m 1 a 0 1 2", "offset g a", "producer", "producer x", "producer 1 2",
		"raw", "raw ", "raw 0", "raw 0102 03", "raw " + strings.Repeat("00", 1<<16+1), "carry", "carry x", "carry 1 2", "answer", "answer -1", "lose 1", "lose 1 Out", "lose 1 outs", "lose 1 ", "lose out 1", "double 1 back back", "tick", "tick -1", "cut", "cut 1 1", "restart ", "restart 1 ", "restart x", "restart 1 -1", "restart 01", "waits", "waits in", "waits out back",
		"wait out", "#", "# create a 2",
	} {
		if o, e := script.Parse(s); e != api.ErrBad || told(o) != told(script.Op{}) {
			t.Errorf("Parse(%.40q) is %v, %d", s, o, e)
		}
	}
}

func TestLines(t *testing.T) { // P26.2
	for text, want := range map[string][]string{
		"": nil, "a": {"a"}, "a\n": {"a"}, "\n": {""}, "a\n\n": {"a", ""}, "a\nb c": {"a", "b c"}, "\n\na": {"", "", "a"}, " \r\n": {" \r"},
	} {
		if l, e := script.Lines(text); !slices.Equal(l, want) || e != api.OK {
			t.Errorf("Lines(%q) is %q, %d", text, l, e)
		}
	}
	for _, c := range []struct {
		text string
		want int
		e    api.Errno
	}{
		{strings.Repeat("a", 1<<18), 1, api.OK}, {strings.Repeat("a", 1<<18+1), 0, api.ErrBad}, {strings.Repeat("\n", 10000), 10000, api.OK}, {strings.Repeat("\n", 10001), 0, api.ErrBad}, {strings.Repeat("\n", 9999) + "a", 10000, api.OK}, {strings.Repeat("\n", 10000) + "a", 0, api.ErrBad},
	} {
		if l, e := script.Lines(c.text); len(l) != c.want || e != c.e || e != api.OK && l != nil {
			t.Errorf("Lines of %d bytes is %d, %d", len(c.text), len(l), e)
		}
	}
}

func TestSplit(t *testing.T) { // P26.2
	for s, want := range map[string][]string{"": {""}, " ": {"", ""}, "a": {"a"}, "a b": {"a", "b"}, " a  b ": {"", "a", "", "b", ""}, "a\tb\nc": {"a\tb\nc"}} {
		it := script.Split(s)
		for range 2 {
			if got := slices.Collect(it); !slices.Equal(got, want) {
				t.Errorf("Split(%q) is %q", s, got)
			}
		}
		for word := range it {
			if word != want[0] {
				t.Errorf("Split(%q) begins with %q", s, word)
			}
			break
		}
	}
	n := 0
	for range script.Split("a b c d") {
		if n++; n == 2 {
			break
		}
	}
	if n != 2 {
		t.Errorf("a walk that is left at the second has %d", n)
	}
}

func TestResponse(t *testing.T) { // P26.2
	for _, c := range []struct {
		r    api.Response
		want string
	}{
		{api.Response{}, "code 0 0 0 0 - - 0 -"},
		{api.Response{Corr: 9, Code: 14, Member: "m1", Offset: 7}, "code 14"},
		{api.Response{Offset: -1, Last: 2, Gen: 3, Member: "m", Leader: "l", Names: []string{"a", "b", ""}, Nums: []int{4, -5}, Data: []byte{0, 255, 16}}, "code 0 -1 2 3 m l 3 a:4 b:-5 :0 00ff10"},
		{api.Response{Names: []string{"a"}, Nums: []int{4, 5, 6}}, "code 0 0 0 0 - - 1 a:4 -"},
		{api.Response{Nums: []int{4}}, "code 0 0 0 0 - - 0 -"},
		{api.Response{Code: -3}, "code -3"},
	} {
		if got := script.Response(c.r); got != c.want {
			t.Errorf("Response is %q, not %q", got, c.want)
		}
	}
}

func TestScriptChangesNothing(t *testing.T) { // P26.3
	o := lines()["join g m1 a b --"]
	script.Text(o)
	o.L = []int{1, 2}
	script.Text(o)
	if !slices.Equal(o.Req.Names, []string{"a", "b", "--"}) || !slices.Equal(o.L, []int{1, 2}) {
		t.Error("what was handed in is changed")
	}
	names := append(make([]string, 0, 9), "a", "b")
	script.Text(script.Op{Kind: 8, Req: api.Request{Group: "g", Names: names}})
	if names[:3][2] != "" {
		t.Error("the spare room of what was handed in is changed")
	}
}
