package broker_test

import (
	"fmt"
	"strings"
	"testing"

	"cordwain/api"
	"cordwain/batch"
	"cordwain/broker"
	"cordwain/disk"
	"cordwain/proto"
)

// config is one that may be, with small segments.
func config() broker.Config {
	return broker.Config{Log: api.Config{SegBytes: 400, Index: 100, MapMost: 100, Grace: 10, Flush: true}, Session: 30, Rebalance: 10, Rate: 1000, Burst: 1 << 30}
}

func fresh(t *testing.T, room int) *disk.Disk {
	t.Helper()
	d, e := disk.New(room)
	if e != api.OK {
		t.Fatal(e)
	}
	return d
}

func opened(t *testing.T, d *disk.Disk, c broker.Config) *broker.Broker {
	t.Helper()
	b, e := broker.Open(d, c)
	if e != api.OK || b == nil {
		t.Fatalf("Open is %d", e)
	}
	return b
}

// begun is a broker with topics a, of two partitions, and b, of one.
func begun(t *testing.T, c broker.Config) (*broker.Broker, *disk.Disk) {
	t.Helper()
	d := fresh(t, 1<<24)
	b := opened(t, d, c)
	is(t, b, api.Request{Kind: api.RCreate, Topic: "a", Part: 2}, api.Response{})
	is(t, b, api.Request{Kind: api.RCreate, Topic: "b", Part: 1}, api.Response{})
	return b, d
}

// is asks for a request by both ways, and compares the answer, but for its Corr,
// which must be the request's.
func is(t *testing.T, b *broker.Broker, r api.Request, want api.Response) {
	t.Helper()
	r.Corr = 77
	want.Corr = 77
	if got := b.Do(r); !proto.Alike(got, want) {
		t.Errorf("%v\nis %v\nnot %v", r, got, want)
	}
}

func refuses(t *testing.T, b *broker.Broker, r api.Request, want api.Errno) {
	t.Helper()
	is(t, b, r, api.Response{Code: int(want)})
}

// data is a batch with a record for each word: key=value, key alone, or -, without a key.
func data(t *testing.T, id, epoch, seq int, words ...string) []byte {
	t.Helper()
	one := api.Batch{Last: max(len(words)-1, 0), Producer: id, Epoch: epoch, Seq: seq}
	for i, s := range words {
		key, value, has := strings.Cut(s, "=")
		r := api.Record{Offset: i, Time: 5, HasKey: key != "-", HasValue: has}
		if r.HasKey {
			r.Key = []byte(key)
		}
		if has {
			r.Value = []byte(value)
		}
		one.Records = append(one.Records, r)
	}
	p, e := batch.Encode(one)
	if e != api.OK {
		t.Fatal(e)
	}
	return p
}

// produces produces, and tells the base.
func produces(t *testing.T, b *broker.Broker, topic string, part int, p []byte) int {
	t.Helper()
	x := b.Do(api.Request{Kind: api.RProduce, Topic: topic, Part: part, Data: p})
	if x.Code != 0 {
		t.Fatalf("RProduce is %d", x.Code)
	}
	return x.Offset
}

// fetched is what is fetched, as a text: offset:key=value.
func fetched(t *testing.T, b *broker.Broker, topic string, part, offset, most int) string {
	t.Helper()
	x := b.Do(api.Request{Kind: api.RFetch, Topic: topic, Part: part, Offset: offset, Max: most})
	if x.Code != 0 {
		return fmt.Sprint("code ", x.Code)
	}
	l := []string{fmt.Sprintf("%d-%d", x.Offset, x.Last)}
	if len(x.Data) == 0 {
		return l[0]
	}
	one, e := batch.Decode(x.Data)
	if e != api.OK || one.Base != one.Records[0].Offset || one.Last != one.Records[len(one.Records)-1].Offset || one.Producer != 0 {
		t.Fatalf("the fetched batch is %v, %d", one, e)
	}
	for _, r := range one.Records {
		l = append(l, fmt.Sprintf("%d:%s=%s", r.Offset, r.Key, r.Value))
	}
	return strings.Join(l, " ")
}

func ticks(t *testing.T, b *broker.Broker, n int) {
	t.Helper()
	if e := b.Tick(n); e != api.OK {
		t.Fatalf("Tick(%d) is %d", n, e)
	}
}

func joinOf(group, member string, topics ...string) api.Request {
	return api.Request{Kind: api.RJoin, Group: group, Member: member, Names: topics}
}

func memberOf(kind int, group, member string, gen int) api.Request {
	return api.Request{Kind: kind, Group: group, Member: member, Gen: gen}
}

func commitOf(group, member string, gen int, topic string, part, offset int) api.Request {
	return api.Request{Kind: api.RCommit, Group: group, Member: member, Gen: gen, Topic: topic, Part: part, Offset: offset}
}

func offsetOf(group, topic string, part int) api.Request {
	return api.Request{Kind: api.ROffset, Group: group, Topic: topic, Part: part}
}
