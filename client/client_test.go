package client_test

import (
	"bytes"
	"fmt"
	"math"
	"strings"
	"testing"

	"cordwain/api"
	"cordwain/batch"
	"cordwain/client"
	"cordwain/proto"
)

func producer(t *testing.T) *client.Producer {
	t.Helper()
	p, e := client.NewProducer(7, 3)
	if e != api.OK || p == nil {
		t.Fatalf("NewProducer is %d", e)
	}
	return p
}

// records is so many, whose Offsets are of no account.
func records(n int) (l []api.Record) {
	for i := range n {
		l = append(l, api.Record{Offset: 99 - i, Time: i, HasKey: true, Key: []byte("k"), HasValue: true, Value: []byte(fmt.Sprint("v", i))})
	}
	return l
}

// makes makes a request of n records, and compares it with what it should be.
func makes(t *testing.T, p *client.Producer, topic string, part, n, corr, seq int) api.Request {
	t.Helper()
	r, e := p.Make(topic, part, records(n))
	b := api.Batch{Last: n - 1, Producer: 7, Epoch: 3, Seq: seq, Records: records(n)}
	for i := range b.Records {
		b.Records[i].Offset = i
	}
	data, _ := batch.Encode(b)
	if want := (api.Request{Kind: 4, Corr: corr, Topic: topic, Part: part, Data: data}); e != api.OK || len(data) == 0 || !proto.Same(r, want) {
		t.Fatalf("Make is %v, %d, not %v", r, e, want)
	}
	return r
}

func done(t *testing.T, p *client.Producer, x api.Response, offset int, want api.Errno) {
	t.Helper()
	if got, e := p.Done(x); got != offset || e != want {
		t.Errorf("Done of %d, %d is %d, %d, not %d, %d", x.Corr, x.Code, got, e, offset, want)
	}
}

func retries(t *testing.T, p *client.Producer, want api.Request, is bool) {
	t.Helper()
	if r, ok := p.Retry(); ok != is || !proto.Same(r, want) {
		t.Errorf("Retry is %v, %v", r, ok)
	}
}

func TestNewProducer(t *testing.T) { // P24.1
	for _, c := range []struct {
		id, epoch int
		want      api.Errno
	}{
		{1, 0, api.OK}, {1 << 40, 32767, api.OK}, {0, 0, api.ErrArg}, {-1, 0, api.ErrArg}, {1<<40 + 1, 0, api.ErrArg}, {1, -1, api.ErrArg}, {1, 32768, api.ErrArg}, {math.MinInt, math.MaxInt, api.ErrArg},
	} {
		if p, e := client.NewProducer(c.id, c.epoch); e != c.want || (p == nil) != (e != api.OK) {
			t.Errorf("NewProducer(%d, %d) is %d", c.id, c.epoch, e)
		}
	}
}

func TestMakeAndDone(t *testing.T) { // P24.1, P24.2
	p := producer(t)
	retries(t, p, api.Request{}, false)
	done(t, p, api.Response{}, 0, api.ErrWait)
	r := makes(t, p, "a", 1, 3, 1, 0)
	for range 3 {
		retries(t, p, r, true)
	}
	if x, e := p.Make("b", 0, records(1)); e != api.ErrWait || !proto.Same(x, api.Request{}) {
		t.Errorf("Make with one under way is %d", e)
	}
	if _, e := p.Make("b", 0, nil); e != api.ErrWait {
		t.Errorf("Make of nothing with one under way is %d", e)
	}
	done(t, p, api.Response{Corr: 2, Offset: 5}, 0, api.ErrWait)
	done(t, p, api.Response{Corr: 0, Offset: 5}, 0, api.ErrWait)
	if p.Seq("a", 1) != 0 {
		t.Error("something is done")
	}
	done(t, p, api.Response{Corr: 1, Offset: 50}, 50, api.OK)
	retries(t, p, api.Request{}, false)
	done(t, p, api.Response{Corr: 1, Offset: 50}, 0, api.ErrWait)
	if p.Seq("a", 1) != 3 || p.Seq("a", 0) != 0 || p.Seq("b", 1) != 0 {
		t.Errorf("Seq is %d", p.Seq("a", 1))
	}
	makes(t, p, "a", 0, 2, 2, 0)
	done(t, p, api.Response{Corr: 2}, 0, api.OK)
	makes(t, p, "a", 1, 2, 3, 3)
	done(t, p, api.Response{Corr: 3, Offset: 9}, 9, api.OK)
	makes(t, p, "a", 1, 100, 4, 5)
	done(t, p, api.Response{Corr: 4, Offset: 9}, 9, api.OK)
	makes(t, p, "a", 1, 1, 5, 105)
	if p.Seq("a", 1) != 105 || p.Seq("a", 0) != 2 {
		t.Errorf("Seq is %d, %d", p.Seq("a", 1), p.Seq("a", 0))
	}
}

func TestMakeRefuses(t *testing.T) { // P24.1
	p := producer(t)
	big := records(1)
	big[0].Value = make([]byte, 2001)
	late := records(1)
	late[0].Time = 1<<50 + 1
	keyless := records(1)
	keyless[0].HasKey = false
	many := records(33)
	for i := range many {
		many[i].Value = []byte(strings.Repeat("v", 2000))
	}
	for what, l := range map[string][]api.Record{"none": nil, "too many": records(101), "a long value": big, "a late one": late, "a key without HasKey": keyless, "too many bytes": many} {
		if r, e := p.Make("a", 0, l); e != api.ErrArg || !proto.Same(r, api.Request{}) {
			t.Errorf("Make of %s is %d", what, e)
		}
		retries(t, p, api.Request{}, false)
	}
	makes(t, p, "", -5, 1, 1, 0)
}

func TestDoneWithErrors(t *testing.T) { // P24.2, P24.4
	p := producer(t)
	corr := 0
	for code := 1; code < 30; code++ {
		corr++
		r := makes(t, p, "a", 0, 2, corr, 0)
		done(t, p, api.Response{Corr: corr, Code: code, Offset: 7}, 0, api.Errno(code))
		if code == int(api.ErrOff) || code == int(api.ErrQuota) || code == int(api.ErrFull) {
			retries(t, p, r, true)
			done(t, p, api.Response{Corr: corr, Code: code, Offset: 7}, 0, api.Errno(code))
			retries(t, p, r, true)
			done(t, p, api.Response{Corr: corr, Code: int(api.ErrSeq)}, 0, api.ErrSeq)
		}
		retries(t, p, api.Request{}, false)
		if p.Seq("a", 0) != 0 {
			t.Fatalf("code %d: records are done", code)
		}
	}
	makes(t, p, "a", 0, 2, corr+1, 0)
	done(t, p, api.Response{Corr: corr + 1, Code: int(api.ErrFull)}, 0, api.ErrFull)
	done(t, p, api.Response{Corr: corr + 1, Offset: 4}, 4, api.OK)
	if p.Seq("a", 0) != 2 {
		t.Errorf("Seq is %d", p.Seq("a", 0))
	}
}

func reader(t *testing.T, offset int) *client.Reader {
	t.Helper()
	r, e := client.NewReader("a", 2, offset)
	if e != api.OK || r == nil || r.Offset() != offset {
		t.Fatalf("NewReader is %d", e)
	}
	return r
}

func TestNewReader(t *testing.T) { // P24.3
	for offset, want := range map[int]api.Errno{0: api.OK, 1 << 62: api.OK, -1: api.ErrArg, 1<<62 + 1: api.ErrArg, math.MinInt: api.ErrArg} {
		if r, e := client.NewReader("", -1, offset); e != want || (r == nil) != (e != api.OK) {
			t.Errorf("NewReader at %d is %d", offset, e)
		}
	}
}

// answer is a batch with records at these offsets.
func answer(t *testing.T, offsets ...int) []byte {
	t.Helper()
	b := api.Batch{Last: 1 << 62}
	for _, offset := range offsets {
		b.Records = append(b.Records, api.Record{Offset: offset, HasValue: true, Value: []byte("v")})
	}
	p, e := batch.Encode(b)
	if e != api.OK {
		t.Fatal(e)
	}
	return p
}

func gets(t *testing.T, r *client.Reader, x api.Response, want string, e api.Errno, offset int) {
	t.Helper()
	l, err := r.Got(x)
	var got []string
	for _, one := range l {
		got = append(got, fmt.Sprint(one.Offset, string(one.Value)))
	}
	if strings.Join(got, " ") != want || err != e || r.Offset() != offset {
		t.Errorf("Got is %v, %d, and Offset %d, not %q, %d, %d", got, err, r.Offset(), want, e, offset)
	}
}

func TestReader(t *testing.T) { // P24.3
	r := reader(t, 5)
	gets(t, r, api.Response{}, "", api.ErrWait, 5)
	if x := r.Ask(1000); !proto.Same(x, api.Request{Kind: 5, Corr: 1, Topic: "a", Part: 2, Offset: 5, Max: 1000}) {
		t.Errorf("Ask is %v", x)
	}
	gets(t, r, api.Response{Corr: 0}, "", api.ErrWait, 5)
	gets(t, r, api.Response{Corr: 2, Data: answer(t, 5)}, "", api.ErrWait, 5)
	gets(t, r, api.Response{Corr: 1, Code: 8, Data: answer(t, 5)}, "", api.ErrRange, 5)
	gets(t, r, api.Response{Corr: 1, Code: 99}, "", 99, 5)
	gets(t, r, api.Response{Corr: 1}, "", api.OK, 5)
	gets(t, r, api.Response{Corr: 1, Data: []byte{1}}, "", api.ErrBad, 5)
	gets(t, r, api.Response{Corr: 1, Data: append(answer(t, 5), 0)}, "", api.ErrBad, 5)
	gets(t, r, api.Response{Corr: 1, Data: answer(t, 4)}, "", api.ErrBad, 5)
	gets(t, r, api.Response{Corr: 1, Data: answer(t, 4, 6)}, "", api.ErrBad, 5)
	gets(t, r, api.Response{Corr: 1, Data: answer(t)}, "", api.OK, 5)
	gets(t, r, api.Response{Corr: 1, Data: answer(t, 5, 6, 9)}, "5v 6v 9v", api.OK, 10)
	gets(t, r, api.Response{Corr: 1, Data: answer(t, 5, 6, 9)}, "", api.ErrBad, 10)
	if x := r.Ask(-1); !proto.Same(x, api.Request{Kind: 5, Corr: 2, Topic: "a", Part: 2, Offset: 10, Max: -1}) {
		t.Errorf("Ask is %v", x)
	}
	gets(t, r, api.Response{Corr: 1, Data: answer(t, 10)}, "", api.ErrWait, 10)
	r.Ask(0)
	gets(t, r, api.Response{Corr: 2, Data: answer(t, 10)}, "", api.ErrWait, 10)
	gets(t, r, api.Response{Corr: 3, Data: answer(t, 12)}, "12v", api.OK, 13)
	gets(t, r, api.Response{Corr: 3, Data: answer(t, 1<<62)}, "4611686018427387904v", api.OK, 1<<62+1)
}

func TestNilAndZero(t *testing.T) { // P24.3
	var p *client.Producer
	r, e := p.Make("a", 0, records(1))
	offset, f := p.Done(api.Response{})
	if e != api.ErrArg || !proto.Same(r, api.Request{}) || offset != 0 || f != api.ErrArg || p.Seq("a", 0) != 0 {
		t.Error("a nil Producer has something")
	}
	retries(t, p, api.Request{}, false)
	var x *client.Reader
	if l, e := x.Got(api.Response{}); l != nil || e != api.ErrArg || x.Offset() != 0 || !proto.Same(x.Ask(5), api.Request{}) {
		t.Error("a nil Reader has something")
	}
	p = new(client.Producer)
	p.Make("a", 0, records(1))
	p.Done(api.Response{Corr: 1})
	new(client.Reader).Got(api.Response{})
}

func TestClientsKeepAndShareNothing(t *testing.T) { // P24.4
	p := producer(t)
	l := records(2)
	want := fmt.Sprint(l)
	r, _ := p.Make("a", 0, l)
	if fmt.Sprint(l) != want {
		t.Error("what was handed in is changed")
	}
	kept := bytes.Clone(r.Data)
	clear(l[0].Value)
	clear(r.Data)
	for range 2 {
		x, _ := p.Retry()
		if !bytes.Equal(x.Data, kept) {
			t.Error("what is under way is turned")
		}
		clear(x.Data)
	}
	x := reader(t, 0)
	x.Ask(9)
	data := answer(t, 1)
	got, _ := x.Got(api.Response{Corr: 1, Data: data})
	clear(data)
	if string(got[0].Value) != "v" {
		t.Error("what was answered shares what was handed in")
	}
}
