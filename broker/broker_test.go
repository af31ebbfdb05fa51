package broker_test

import (
	"fmt"
	"math"
	"slices"
	"strings"
	"testing"

	"cordwain/api"
	"cordwain/batch"
	"cordwain/broker"
	"cordwain/proto"
)

func TestOpenRefuses(t *testing.T) { // P22.1
	if b, e := broker.Open(nil, config()); b != nil || e != api.ErrArg {
		t.Errorf("Open of no disk is %d", e)
	}
	for i, turn := range []func(c *broker.Config){
		func(c *broker.Config) { c.Log.SegBytes = 99 }, func(c *broker.Config) { c.Log.Flush = false },
		func(c *broker.Config) { c.Session = 0 }, func(c *broker.Config) { c.Session = 1000001 }, func(c *broker.Config) { c.Rebalance = 0 }, func(c *broker.Config) { c.Rebalance = 1000001 },
		func(c *broker.Config) { c.Rate = -1 }, func(c *broker.Config) { c.Rate = 1<<30 + 1 }, func(c *broker.Config) { c.Burst = 0 }, func(c *broker.Config) { c.Burst = 1<<40 + 1 },
	} {
		c := config()
		turn(&c)
		if b, e := broker.Open(fresh(t, 1000), c); b != nil || e != api.ErrArg {
			t.Errorf("Open with config %d is %d", i, e)
		}
	}
	for _, turn := range []func(c *broker.Config){
		func(c *broker.Config) { c.Session, c.Rebalance, c.Rate, c.Burst = 1, 1, 0, 1 }, func(c *broker.Config) { c.Session, c.Rebalance, c.Rate, c.Burst = 1000000, 1000000, 1<<30, 1<<40 },
	} {
		c := config()
		turn(&c)
		b := opened(t, fresh(t, 0), c)
		if b.Now() != 0 || b.Dead() || len(b.Topics()) != 0 || b.Log("a", 0) != nil || b.Group("g") != nil {
			t.Error("a new broker has something")
		}
	}
}

func TestTopics(t *testing.T) { // P22.2
	b, _ := begun(t, config())
	is(t, b, api.Request{Kind: api.RMeta}, api.Response{Names: []string{"a", "b"}, Nums: []int{2, 1}})
	for _, c := range []struct {
		kind  int
		topic string
		parts int
		want  api.Errno
	}{
		{api.RCreate, "a", 2, api.ErrThere}, {api.RCreate, "A", 2, api.ErrArg}, {api.RCreate, "c", 0, api.ErrArg}, {api.RCreate, "c", 21, api.ErrArg}, {api.RCreate, "offsets", 1, api.ErrArg},
		{api.RDelete, "c", 0, api.ErrNone}, {api.RDelete, "offsets", 0, api.ErrNone}, {api.RDelete, "", 0, api.ErrNone},
	} {
		refuses(t, b, api.Request{Kind: c.kind, Topic: c.topic, Part: c.parts}, c.want)
	}
	is(t, b, api.Request{Kind: api.RDelete, Topic: "a"}, api.Response{})
	is(t, b, api.Request{Kind: api.RMeta}, api.Response{Names: []string{"b"}, Nums: []int{1}})
	if l := b.Topics(); len(l) != 1 || l[0].Name != "b" || l[0].Parts != 1 {
		t.Errorf("Topics are %v", l)
	}
	for i := range 19 {
		is(t, b, api.Request{Kind: api.RCreate, Topic: fmt.Sprint("t", i), Part: 1}, api.Response{})
	}
	refuses(t, b, api.Request{Kind: api.RCreate, Topic: "more", Part: 1}, api.ErrBad)
}

func TestInternalTopicIsToldNowhere(t *testing.T) { // Words of chapter 22
	b, _ := begun(t, config())
	is(t, b, joinOf("g", "", "a", "offsets"), api.Response{Member: "m1", Gen: 1, Leader: "m1"})
	is(t, b, memberOf(api.RSync, "g", "m1", 1), api.Response{Names: []string{"a", "a"}, Nums: []int{0, 1}})
	is(t, b, commitOf("g", "m1", 1, "a", 0, 5), api.Response{})
	for _, r := range []api.Request{
		{Kind: api.RProduce, Topic: "offsets", Data: data(t, 0, 0, 0, "k=v")}, {Kind: api.RFetch, Topic: "offsets", Max: 100}, {Kind: api.RList, Topic: "offsets"}, {Kind: api.RTrim, Topic: "offsets"},
		{Kind: api.RDelete, Topic: "offsets"}, commitOf("g", "m1", 1, "offsets", 0, 5), offsetOf("g", "offsets", 0),
	} {
		refuses(t, b, r, api.ErrNone)
	}
	is(t, b, api.Request{Kind: api.RMeta}, api.Response{Names: []string{"a", "b"}, Nums: []int{2, 1}})
	if len(b.Topics()) != 2 {
		t.Errorf("Topics are %v", b.Topics())
	}
}

func TestProduceAndFetch(t *testing.T) { // P22.2
	b, _ := begun(t, config())
	is(t, b, api.Request{Kind: api.RFetch, Topic: "a", Max: 100}, api.Response{})
	is(t, b, api.Request{Kind: api.RProduce, Topic: "a", Part: 1, Data: data(t, 0, 0, 0, "k=v", "-=x")}, api.Response{Offset: 0, Last: 1})
	is(t, b, api.Request{Kind: api.RProduce, Topic: "a", Part: 1, Data: data(t, 9, 2, 0, "k", "a=", "b=3")}, api.Response{Offset: 2, Last: 4})
	is(t, b, api.Request{Kind: api.RProduce, Topic: "a", Part: 1, Data: data(t, 9, 2, 0, "k", "a=", "b=3")}, api.Response{Offset: 2, Last: 4})
	if got := fetched(t, b, "a", 1, 0, 1000); got != "0-5 0:k=v 1:=x 2:k= 3:a= 4:b=3" {
		t.Errorf("fetched is %s", got)
	}
	if got := fetched(t, b, "a", 1, 3, 0); got != "0-5 3:a= 4:b=3" {
		t.Errorf("fetched is %s", got)
	}
	if got := fetched(t, b, "a", 1, 1, 0); got != "0-5 1:=x" {
		t.Errorf("fetched is %s", got)
	}
	want, _ := batch.Encode(api.Batch{Base: 2, Last: 4, Records: b.Log("a", 1).Batches()[0][1].Records})
	is(t, b, api.Request{Kind: api.RFetch, Topic: "a", Part: 1, Offset: 2}, api.Response{Last: 5, Data: want})
	is(t, b, api.Request{Kind: api.RFetch, Topic: "a", Part: 1, Offset: 5, Max: 100}, api.Response{Last: 5})
	for _, c := range []struct {
		r    api.Request
		want api.Errno
	}{
		{api.Request{Kind: api.RFetch, Topic: "a", Part: 1, Offset: 6}, api.ErrRange}, {api.Request{Kind: api.RFetch, Topic: "a", Part: 1, Offset: -1}, api.ErrRange},
		{api.Request{Kind: api.RTrim, Topic: "a", Part: 1, Offset: 6}, api.ErrRange},
		{api.Request{Kind: api.RProduce, Topic: "a", Part: 1, Data: data(t, 9, 2, 4, "k")}, api.ErrSeq}, {api.Request{Kind: api.RProduce, Topic: "a", Part: 1, Data: data(t, 9, 1, 0, "k")}, api.ErrEpoch}, {api.Request{Kind: api.RProduce, Topic: "a", Part: 1, Data: data(t, 9, 2, 0, "k")}, api.ErrDup},
		{api.Request{Kind: api.RProduce, Topic: "a", Part: 1, Data: data(t, 0, 0, 0)}, api.ErrArg}, {api.Request{Kind: api.RProduce, Topic: "a", Part: 1, Data: data(t, 0, 0, 0, "k="+strings.Repeat("v", 400))}, api.ErrBig},
		{api.Request{Kind: api.RProduce, Topic: "a", Part: 1}, api.ErrBad}, {api.Request{Kind: api.RProduce, Topic: "a", Part: 1, Data: append(data(t, 0, 0, 0, "k"), 0)}, api.ErrBad},
		{api.Request{Kind: api.RProduce, Topic: "a", Part: 2}, api.ErrNone},
	} {
		refuses(t, b, c.r, c.want)
	}
	for _, kind := range []int{api.RProduce, api.RFetch, api.RList, api.RTrim} {
		for _, r := range []api.Request{{Topic: "a", Part: 2}, {Topic: "a", Part: -1}, {Topic: "c"}, {Topic: ""}, {Topic: "b", Part: 1}, {Topic: "a", Part: math.MaxInt}} {
			r.Kind = kind
			refuses(t, b, r, api.ErrNone)
		}
	}
	if got := fetched(t, b, "b", 0, 0, 100); got != "0-0" {
		t.Errorf("another partition has %s", got)
	}
}

func TestFetchHasNoMoreThanABatchMay(t *testing.T) { // P22.2
	c := config()
	c.Log.SegBytes = 1 << 20
	b, _ := begun(t, c)
	words := slices.Repeat([]string{"k=v"}, 60)
	for range 4 {
		produces(t, b, "a", 0, data(t, 0, 0, 0, words...))
	}
	x := b.Do(api.Request{Kind: api.RFetch, Topic: "a", Offset: 10, Max: 1 << 30})
	one, e := batch.Decode(x.Data)
	if e != api.OK || len(one.Records) != 100 || one.Base != 10 || one.Last != 109 || x.Last != 240 {
		t.Errorf("fetched is %d records, from %d to %d, %d", len(one.Records), one.Base, one.Last, e)
	}
	x = b.Do(api.Request{Kind: api.RFetch, Topic: "a", Offset: 200, Max: 1 << 30})
	if one, _ := batch.Decode(x.Data); len(one.Records) != 40 {
		t.Errorf("fetched is %d records", len(one.Records))
	}
	words = slices.Repeat([]string{strings.Repeat("k", 200) + "=" + strings.Repeat("v", 2000)}, 20)
	for range 3 {
		produces(t, b, "b", 0, data(t, 0, 0, 0, words...))
	}
	x = b.Do(api.Request{Kind: api.RFetch, Topic: "b", Offset: 1, Max: 1 << 30})
	one, e = batch.Decode(x.Data)
	all, _ := b.Log("b", 0).Read(1, 1<<30)
	n := len(one.Records)
	if e != api.OK || n != 29 || len(all) != 59 || batch.Check(api.Batch{Base: 1, Last: n + 1, Records: all[:n+1]}) != api.ErrBig {
		t.Errorf("fetched is %d records of %d, %d", n, len(all), e)
	}
	x = b.Do(api.Request{Kind: api.RFetch, Topic: "b", Offset: 59, Max: 0})
	if one, _ := batch.Decode(x.Data); len(one.Records) != 1 || one.Base != 59 {
		t.Errorf("fetched is %v", one.Base)
	}
}

func TestListAndTrim(t *testing.T) { // P22.2
	b, _ := begun(t, config())
	for range 3 {
		produces(t, b, "a", 0, data(t, 0, 0, 0, "k=v", "l=w"))
	}
	is(t, b, api.Request{Kind: api.RList, Topic: "a", Time: 5}, api.Response{Offset: 0, Last: 6})
	is(t, b, api.Request{Kind: api.RList, Topic: "a", Time: 6}, api.Response{Offset: 6, Last: 6})
	is(t, b, api.Request{Kind: api.RTrim, Topic: "a", Offset: 3}, api.Response{Offset: 3})
	is(t, b, api.Request{Kind: api.RTrim, Topic: "a", Offset: 2}, api.Response{Code: int(api.ErrRange)})
	is(t, b, api.Request{Kind: api.RTrim, Topic: "a", Offset: 3}, api.Response{Offset: 3})
	is(t, b, api.Request{Kind: api.RList, Topic: "a", Time: -5}, api.Response{Offset: 3, Last: 6})
	if got := fetched(t, b, "a", 0, 3, 0); got != "3-6 3:l=w" {
		t.Errorf("fetched is %s", got)
	}
}

func TestProducers(t *testing.T) { // P22.2
	b, d := begun(t, config())
	id := func(offset int) api.Request { return api.Request{Kind: api.RProducer, Offset: offset} }
	is(t, b, id(0), api.Response{Offset: 1})
	is(t, b, id(0), api.Response{Offset: 2})
	is(t, b, id(1), api.Response{Gen: 0})
	is(t, b, id(1), api.Response{Gen: 1})
	is(t, b, id(0), api.Response{Offset: 3})
	is(t, b, id(1), api.Response{Gen: 2})
	is(t, b, id(3), api.Response{Gen: 0})
	is(t, b, id(70), api.Response{Gen: 0})
	is(t, b, id(70), api.Response{Gen: 1})
	produces(t, b, "a", 1, data(t, 40, 8, 0, "k=v"))
	produces(t, b, "b", 0, data(t, 40, 6, 0, "k=v"))
	is(t, b, id(0), api.Response{Offset: 41})
	is(t, b, id(40), api.Response{Gen: 9})
	is(t, b, id(40), api.Response{Gen: 10})
	produces(t, b, "a", 1, data(t, 41, 0, 0, "k=v"))
	is(t, b, id(41), api.Response{Gen: 1})
	is(t, b, id(1<<40), api.Response{Gen: 0})
	is(t, b, id(0), api.Response{Offset: 42})
	for _, offset := range []int{-1, math.MinInt, 1<<40 + 1, math.MaxInt} {
		refuses(t, b, id(offset), api.ErrArg)
	}
	produces(t, b, "a", 0, data(t, 50, 32766, 0, "k=v"))
	is(t, b, id(50), api.Response{Gen: 32767})
	refuses(t, b, id(50), api.ErrEpoch)
	b = opened(t, d.Crash(), config())
	is(t, b, id(0), api.Response{Offset: 51})
	is(t, b, id(1), api.Response{Gen: 0})
	is(t, b, id(40), api.Response{Gen: 9})
	is(t, b, id(50), api.Response{Gen: 32767})
	produces(t, b, "a", 0, data(t, 1<<40-1, 0, 0, "k=v"))
	is(t, b, id(0), api.Response{Offset: 1 << 40})
	refuses(t, b, id(0), api.ErrOver)
	b, _ = begun(t, config())
	produces(t, b, "a", 0, data(t, 1<<40, 0, 0, "k=v"))
	refuses(t, b, id(0), api.ErrOver)
}

func TestQuota(t *testing.T) { // P22.2
	c := config()
	c.Rate, c.Burst = 10, 100
	b, _ := begun(t, c)
	p := data(t, 0, 0, 0, "k=vv")
	if len(p) != 58 {
		t.Fatalf("the batch has %d bytes", len(p))
	}
	produce := func(client string) api.Request {
		return api.Request{Kind: api.RProduce, Client: client, Topic: "a", Data: p}
	}
	is(t, b, produce("x"), api.Response{})
	refuses(t, b, produce("x"), api.ErrQuota)
	refuses(t, b, api.Request{Kind: api.RFetch, Client: "x", Topic: "none", Data: make([]byte, 43)}, api.ErrQuota)
	refuses(t, b, api.Request{Kind: api.RFetch, Client: "x", Topic: "none", Data: make([]byte, 42)}, api.ErrNone)
	is(t, b, api.Request{Kind: api.RMeta, Client: "x"}, api.Response{Names: []string{"a", "b"}, Nums: []int{2, 1}})
	is(t, b, produce("y"), api.Response{Offset: 1, Last: 1})
	refuses(t, b, api.Request{Kind: 0, Client: "x", Data: p}, api.ErrKind)
	ticks(t, b, 5)
	refuses(t, b, produce("x"), api.ErrQuota)
	ticks(t, b, 1)
	is(t, b, produce("x"), api.Response{Offset: 2, Last: 2})
}

func TestKindsThatAreNone(t *testing.T) { // P22.2
	b, d := begun(t, config())
	for _, kind := range []int{0, -1, 15, math.MaxInt, math.MinInt} {
		refuses(t, b, api.Request{Kind: kind}, api.ErrKind)
	}
	d.Cut(0)
	refuses(t, b, api.Request{Kind: api.RCreate, Topic: "c", Part: 1}, api.ErrOff)
	refuses(t, b, api.Request{Kind: 0}, api.ErrKind)
}

func TestWithoutPower(t *testing.T) { // P22.2
	for what, r := range map[string]api.Request{
		"RCreate": {Kind: api.RCreate, Topic: "c", Part: 1}, "RDelete": {Kind: api.RDelete, Topic: "a"},
		"RProduce": {Kind: api.RProduce, Topic: "a", Data: data(t, 0, 0, 0, "k=v")}, "RTrim": {Kind: api.RTrim, Topic: "b", Offset: 1},
		"RJoin": joinOf("h", "", "a"), "RJoin again": joinOf("g", "m1", "b"), "RCommit": commitOf("g", "m1", 1, "a", 0, 5),
	} {
		b, d := begun(t, config())
		produces(t, b, "b", 0, data(t, 0, 0, 0, "k=v"))
		is(t, b, joinOf("g", "", "a"), api.Response{Member: "m1", Gen: 1, Leader: "m1"})
		d.Cut(0)
		if b.Dead() {
			t.Errorf("%s: dead ahead of it", what)
		}
		refuses(t, b, r, api.ErrOff)
		if !b.Dead() {
			t.Errorf("%s: not dead", what)
		}
		for kind := 1; kind <= api.RKinds; kind++ {
			refuses(t, b, api.Request{Kind: kind, Topic: "a", Group: "g", Max: 100}, api.ErrOff)
		}
		if b.Tick(1) != api.ErrOff || b.Tick(-1) != api.ErrArg || b.Now() != 0 {
			t.Errorf("%s: time goes by", what)
		}
	}
}

func TestHandle(t *testing.T) { // P22.3
	b, _ := begun(t, config())
	other, _ := begun(t, config())
	for i, r := range []api.Request{
		{Kind: api.RMeta, Corr: 5}, {Kind: api.RProduce, Corr: 6, Topic: "a", Data: data(t, 0, 0, 0, "k=v")}, {Kind: api.RFetch, Corr: 7, Topic: "a", Max: 9}, {Kind: api.RFetch, Corr: 8, Topic: "none"}, joinOf("g", "", "a"), {Kind: api.RSync, Corr: math.MaxInt32, Group: "g", Member: "m1", Gen: 1},
	} {
		p, e := proto.Encode(r)
		if e != api.OK {
			t.Fatal(e)
		}
		kept := slices.Clone(p)
		x, e := proto.Read(b.Handle(p))
		if want := other.Do(r); e != api.OK || !proto.Alike(x, want) || x.Corr != r.Corr || !slices.Equal(p, kept) {
			t.Errorf("%d: %v, %d, not %v", i, x, e, want)
		}
	}
	for _, c := range []struct {
		p    []byte
		corr int
		want api.Errno
	}{
		{nil, 0, api.ErrBad}, {[]byte{0, 1, 0, 0, 0, 9}, 9, api.ErrBad}, {[]byte{0, 99, 0, 0, 0, 9}, 9, api.ErrKind}, {append([]byte{0, 1, 0, 0, 1, 0}, make([]byte, 1<<17)...), 256, api.ErrBig}, {[]byte{0, 1, 255, 0, 0, 9}, 0, api.ErrBad},
	} {
		for _, one := range []*broker.Broker{b, nil} {
			if x, e := proto.Read(one.Handle(c.p)); e != api.OK || !proto.Alike(x, api.Response{Corr: c.corr, Code: int(c.want)}) {
				t.Errorf("Handle is %v, %d, not %d", x, e, c.want)
			}
		}
	}
}

func TestNilAndZeroBroker(t *testing.T) { // P22.4
	for _, b := range []*broker.Broker{nil, new(broker.Broker)} {
		for kind := 1; kind <= api.RKinds; kind++ {
			refuses(t, b, api.Request{Kind: kind, Topic: "a", Group: "g"}, api.ErrOff)
			p, _ := proto.Encode(api.Request{Kind: kind, Corr: 5})
			if x, e := proto.Read(b.Handle(p)); e != api.OK || !proto.Alike(x, api.Response{Corr: 5, Code: int(api.ErrOff)}) {
				t.Errorf("Handle is %v, %d", x, e)
			}
		}
		if b.Tick(1) != api.ErrOff || b.Now() != 0 || !b.Dead() || b.Log("a", 0) != nil || b.Group("g") != nil || len(b.Topics()) != 0 {
			t.Error("no broker has something")
		}
	}
}

func TestBrokerKeepsAndSharesNothing(t *testing.T) { // P22.6
	b, _ := begun(t, config())
	p := data(t, 0, 0, 0, "k=v")
	r := api.Request{Kind: api.RProduce, Topic: "a", Data: p}
	b.Do(r)
	clear(p)
	join := joinOf("g", "", "a")
	b.Do(join)
	join.Names[0] = "zzz"
	x := b.Do(api.Request{Kind: api.RFetch, Topic: "a", Max: 100})
	clear(x.Data)
	b.Do(api.Request{Kind: api.RMeta}).Names[0] = "zzz"
	b.Topics()[0].Name = "zzz"
	if got := fetched(t, b, "a", 0, 0, 100); got != "0-1 0:k=v" {
		t.Errorf("fetched is %s", got)
	}
	is(t, b, joinOf("g", "m1", "a"), api.Response{Member: "m1", Gen: 1, Leader: "m1"})
	is(t, b, api.Request{Kind: api.RMeta}, api.Response{Names: []string{"a", "b"}, Nums: []int{2, 1}})
}
