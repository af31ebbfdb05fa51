package shell_test

import (
	"fmt"
	"math/rand"
	"strings"
	"testing"

	"cordwain/api"
	"cordwain/batch"
	"cordwain/broker"
	"cordwain/shell"
)

// hex is a batch of records without keys, as a word.
func hex(t *testing.T, id, seq int, values ...string) string {
	t.Helper()
	b := api.Batch{Last: len(values) - 1, Producer: id, Seq: seq}
	for i, s := range values {
		b.Records = append(b.Records, api.Record{Offset: i, HasValue: true, Value: []byte(s)})
	}
	p, e := batch.Encode(b)
	if e != api.OK {
		t.Fatal(e)
	}
	return fmt.Sprintf("%x", p)
}

// plays compares the answers of a script: each line is a line of the script, ` = `, and its answer.
func plays(t *testing.T, what string, script ...string) {
	t.Helper()
	var lines, want []string
	for _, s := range script {
		line, answer, ok := strings.Cut(s, " = ")
		lines = append(lines, line)
		if ok {
			want = append(want, answer)
		}
	}
	got := strings.Split(shell.Play(strings.Join(lines, "\n")), "\n")
	for i := range max(len(got)-1, len(want)) {
		if i >= len(got)-1 || i >= len(want) || got[i] != want[i] {
			t.Errorf("%s: %q, not %q", what, got, want)
			return
		}
	}
	if got[len(got)-1] != "" {
		t.Errorf("%s: the last answer is not ended", what)
	}
}

func TestConfig(t *testing.T) { // P27.1
	want := broker.Config{Log: api.Config{SegBytes: 400, SegAge: 100, Index: 100, KeepBytes: 2000, KeepAge: 1000, Compact: false, Grace: 10, MapMost: 100, Flush: true}, Session: 30, Rebalance: 10, Round: false, Rate: 1000, Burst: 100000}
	if got := shell.Config(); got != want {
		t.Errorf("Config is %v", got)
	}
}

func TestLinesThatAreNone(t *testing.T) { // P27.2
	plays(t, "nothing")
	plays(t, "remarks", "", "# a remark", "#", "", "#topics")
	plays(t, "one", "topics = code 0 0 0 0 - - 0 -")
	plays(t, "bad ones", "none = error 2", " # = error 2", "topics  = error 2", "create a = error 2", "", "topics = code 0 0 0 0 - - 0 -", "\t = error 2")
	for _, text := range []string{strings.Repeat("\n", 10001), strings.Repeat("#", 1<<18+1), "topics\n" + strings.Repeat("\n", 10000)} {
		if got := shell.Play(text); got != "error 2\n" {
			t.Errorf("a script that is too long is %q", got)
		}
	}
	if got := shell.Play(strings.Repeat("\n", 10000)); got != "" {
		t.Errorf("empty lines are %q", got)
	}
	if got := shell.Play("topics"); got != "code 0 0 0 0 - - 0 -\n" {
		t.Errorf("Play is %q", got)
	}
}

func TestRequests(t *testing.T) { // P27.2
	plays(t, "requests",
		"create a 2 = code 0 0 0 0 - - 0 -", "create a 2 = code 6", "create b 1 = code 0 0 0 0 - - 0 -", "topics = code 0 0 0 0 - - 2 a:2 b:1 -",
		"produce a 1 "+hex(t, 0, 0, "x", "y")+" = code 0 0 1 0 - - 0 -", "produce a 1 "+hex(t, 0, 0, "z")+" = code 0 2 2 0 - - 0 -", "produce a 2 - = code 5", "produce a 1 00 = code 2",
		"fetch a 1 0 1 = code 0 0 3 0 - - 0 "+hex(t, 0, 0, "x", "y"), "fetch a 1 3 1 = code 0 0 3 0 - - 0 -", "fetch a 1 4 1 = code 8",
		"list a 1 0 = code 0 0 3 0 - - 0 -", "list a 1 1 = code 0 3 3 0 - - 0 -", "trim a 1 2 = code 0 2 0 0 - - 0 -", "trim a 1 4 = code 8",
		"join g - a = code 0 0 0 1 m1 m1 0 -", "sync g m1 1 = code 0 0 0 0 - - 2 a:0 a:1 -", "beat g m1 1 = code 0 0 0 0 - - 0 -", "beat g m1 2 = code 12", "commit g m1 1 a 1 2 = code 0 0 0 0 - - 0 -", "offset g a 1 = code 0 2 0 0 - - 0 -", "offset g a 0 = code 5",
		"join g - b = code 14", "leave g m2 = code 0 0 0 0 - - 0 -", "join g m1 a = code 0 0 0 2 m1 m1 0 -", "leave g m1 = code 0 0 0 0 - - 0 -",
		"producer 0 = code 0 1 0 0 - - 0 -", "producer 9 = code 0 0 0 0 - - 0 -", "producer 9 = code 0 0 0 1 - - 0 -",
		"delete a = code 0 0 0 0 - - 0 -", "delete a = code 5", "topics = code 0 0 0 0 - - 1 b:1 -")
}

func TestTurnsOfTheWorld(t *testing.T) { // P27.2
	plays(t, "the net",
		"raw 00010000000502 = ok 1", "waits out = ok 1", "waits back = ok", "carry 1 = ok 1", "carry 1 = error 5", "waits out = ok", "waits back = ok 1", "double 1 back = ok 2", "double 1 out = error 5", "waits back = ok 1 2", "answer 1 = code 2", "lose 2 back = ok", "lose 2 back = error 5", "answer 2 = error 5",
		"topics = code 0 0 0 0 - - 0 -", "raw - = ok 3", "double 3 out = ok 4", "lose 3 out = ok", "waits out = ok 4", "waits back = ok", "carry 4 = ok 4", "answer 4 = code 2")
	plays(t, "time and power",
		"tick 5 = ok", "tick 1000001 = error 1", "create a 1 = code 0 0 0 0 - - 0 -", "cut 1 = ok", "create b 1 = code 7", "topics = code 7", "tick 1 = error 7", "restart = ok", "topics = code 0 0 0 0 - - 1 a:1 -", "restart 5 6 7 = ok", "cut 3 = ok", "create b 1 = code 7", "restart 2 = ok", "topics = code 0 0 0 0 - - 2 a:1 b:1 -", "cut 1125899906842624 = ok", "create c 1 = code 0 0 0 0 - - 0 -")
}

func TestRequestsComeBetweenOthers(t *testing.T) { // P27.2
	plays(t, "raw ones", "topics = code 0 0 0 0 - - 0 -", "raw 0003000000070000000000000000000000 = ok 2", "carry 2 = ok 2", "topics = code 0 0 0 0 - - 0 -", "waits back = ok 2", "answer 2 = code 0 0 0 0 - - 0 -", "waits back = ok")
	lines := strings.Repeat("topics\n", 300)
	if got := shell.Play(lines); got != strings.Repeat("code 0 0 0 0 - - 0 -\n", 300) {
		t.Errorf("300 requests are %.80q", got)
	}
}

func TestQuotaIsOfOneClient(t *testing.T) { // P27.1, P27.2
	big := strings.Repeat("00", 1<<16)
	plays(t, "quota", "produce a 0 "+big+" = code 5", "produce a 0 "+big[:2*34464]+" = code 5", "produce a 0 00 = code 15", "tick 1 = ok", "produce a 0 "+big[:2000]+" = code 5", "produce a 0 00 = code 15")
}

// random is lines by a number.
func random(t *testing.T, seed int64) []string {
	t.Helper()
	r := rand.New(rand.NewSource(seed))
	lines := []string{"create a 2", "join g - a b"}
	for range 150 {
		topic, part := []string{"a", "b", "c"}[r.Intn(3)], r.Intn(3)
		switch r.Intn(14) {
		case 0:
			lines = append(lines, fmt.Sprintf("create %s %d", topic, 1+r.Intn(2)))
		case 1:
			lines = append(lines, fmt.Sprintf("delete %s", topic))
		case 2, 3, 4:
			lines = append(lines, fmt.Sprintf("produce %s %d %s", topic, part, hex(t, r.Intn(3), 0, "v", fmt.Sprint(r.Intn(99)))))
		case 5:
			lines = append(lines, fmt.Sprintf("fetch %s %d %d %d", topic, part, r.Intn(9), r.Intn(500)))
		case 6:
			lines = append(lines, fmt.Sprintf("join g %s a %s", []string{"-", "m1", "m2"}[r.Intn(3)], topic))
		case 7:
			lines = append(lines, fmt.Sprintf("sync g m%d %d", 1+r.Intn(3), r.Intn(5)))
		case 8:
			lines = append(lines, fmt.Sprintf("commit g m%d %d %s %d %d", 1+r.Intn(3), r.Intn(5), topic, part, r.Intn(50)))
		case 9:
			lines = append(lines, fmt.Sprintf("tick %d", r.Intn(30)))
		case 10:
			lines = append(lines, fmt.Sprintf("cut %d", r.Intn(20)))
		case 11:
			lines = append(lines, fmt.Sprintf("restart %d %d", r.Intn(9), r.Intn(99)))
		case 12:
			lines = append(lines, []string{"", "# remark", "waits out", "bad", "producer 0", "offset g a 0"}[r.Intn(6)])
		default:
			lines = append(lines, "topics")
		}
	}
	return lines
}

func TestAnswersAreThoseUpToAnyPlace(t *testing.T) { // P27.3
	for seed := range 20 {
		lines := random(t, int64(seed))
		whole := shell.Play(strings.Join(lines, "\n"))
		if again := shell.Play(strings.Join(lines, "\n") + "\n"); again != whole {
			t.Fatalf("seed %d: played again it is another", seed)
		}
		for n := range lines {
			part := shell.Play(strings.Join(lines[:n], "\n"))
			if !strings.HasPrefix(whole, part) {
				t.Fatalf("seed %d: the first %d lines answer another thing", seed, n)
			}
		}
	}
}
