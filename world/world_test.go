package world_test

import (
	"fmt"
	"math"
	"math/rand"
	"slices"
	"strings"
	"testing"

	"cordwain/api"
	"cordwain/batch"
	"cordwain/broker"
	"cordwain/client"
	"cordwain/proto"
	"cordwain/world"
)

func config() broker.Config {
	return broker.Config{Log: api.Config{SegBytes: 300, Index: 100, MapMost: 100, Grace: 10, Flush: true}, Session: 30, Rebalance: 10, Rate: 1000, Burst: 1 << 30}
}

func fresh(t *testing.T) *world.World {
	t.Helper()
	w, e := world.New(config(), 1<<20)
	if e != api.OK || w == nil {
		t.Fatalf("New is %d", e)
	}
	return w
}

func asks(t *testing.T, w *world.World, r api.Request, want int) {
	t.Helper()
	if id, e := w.Ask(r); id != want || e != api.OK {
		t.Errorf("Ask is %d, %d, not %d", id, e, want)
	}
}

func carries(t *testing.T, w *world.World, id, want int, e api.Errno) {
	t.Helper()
	if answer, err := w.Carry(id); answer != want || err != e {
		t.Errorf("Carry(%d) is %d, %d, not %d, %d", id, answer, err, want, e)
	}
}

func answers(t *testing.T, w *world.World, id int, want api.Response, e api.Errno) {
	t.Helper()
	if x, err := w.Answer(id); !proto.Alike(x, want) || err != e {
		t.Errorf("Answer(%d) is %v, %d, not %v, %d", id, x, err, want, e)
	}
}

func waits(t *testing.T, w *world.World, out, back []int) {
	t.Helper()
	if a, b := w.Waits(false), w.Waits(true); !slices.Equal(a, out) || !slices.Equal(b, back) {
		t.Errorf("%v and %v wait, not %v and %v", a, b, out, back)
	}
}

func create(topic string, corr int) api.Request {
	return api.Request{Kind: api.RCreate, Corr: corr, Topic: topic, Part: 1}
}

func TestNew(t *testing.T) { // P25.1
	for _, room := range []int{-1, 1<<40 + 1} {
		if w, e := world.New(config(), room); w != nil || e != api.ErrArg {
			t.Errorf("New with room %d is %d", room, e)
		}
	}
	c := config()
	c.Session = 0
	if w, e := world.New(c, 100); w != nil || e != api.ErrArg {
		t.Errorf("New with a config that may not be is %d", e)
	}
	w := fresh(t)
	waits(t, w, nil, nil)
	if w.Broker() == nil || w.Disk() == nil || w.Broker().Now() != 0 || w.Disk().Used() != 0 {
		t.Error("a new world has something, or nothing")
	}
}

func TestAskCarryAnswer(t *testing.T) { // P25.1
	w := fresh(t)
	asks(t, w, create("a", 5), 1)
	asks(t, w, api.Request{Kind: api.RMeta, Corr: 6}, 2)
	waits(t, w, []int{1, 2}, nil)
	carries(t, w, 2, 1, api.OK)
	waits(t, w, []int{1}, []int{1})
	carries(t, w, 1, 2, api.OK)
	carries(t, w, 1, 0, api.ErrNone)
	carries(t, w, 0, 0, api.ErrNone)
	waits(t, w, nil, []int{1, 2})
	answers(t, w, 2, api.Response{Corr: 5}, api.OK)
	answers(t, w, 1, api.Response{Corr: 6}, api.OK)
	answers(t, w, 1, api.Response{}, api.ErrNone)
	asks(t, w, api.Request{Kind: api.RMeta, Corr: 7}, 3)
	carries(t, w, 3, 3, api.OK)
	answers(t, w, 3, api.Response{Corr: 7, Names: []string{"a"}, Nums: []int{1}}, api.OK)
	for _, c := range []struct {
		r    api.Request
		want api.Errno
	}{{api.Request{Kind: 15}, api.ErrKind}, {api.Request{Kind: 1, Corr: -1}, api.ErrArg}, {api.Request{Kind: 1, Topic: strings.Repeat("q", 101)}, api.ErrBig}} {
		if id, e := w.Ask(c.r); id != 0 || e != c.want {
			t.Errorf("Ask is %d, %d", id, e)
		}
	}
	waits(t, w, nil, nil)
}

func TestRaw(t *testing.T) { // P25.1
	w := fresh(t)
	p, _ := proto.Encode(create("a", 9))
	for i, b := range [][]byte{nil, {0, 1, 0, 0, 0, 7}, p, make([]byte, 1<<18)} {
		if id := w.Raw(b); id != i+1 {
			t.Errorf("Raw is %d", id)
		}
		carries(t, w, i+1, i+1, api.OK)
	}
	clear(p)
	answers(t, w, 1, api.Response{Code: int(api.ErrBad)}, api.OK)
	answers(t, w, 2, api.Response{Corr: 7, Code: int(api.ErrBad)}, api.OK)
	answers(t, w, 3, api.Response{Corr: 9}, api.OK)
	answers(t, w, 4, api.Response{Code: int(api.ErrBig)}, api.OK)
}

func TestLoseAndDouble(t *testing.T) { // P25.2
	w := fresh(t)
	asks(t, w, create("a", 1), 1)
	if id, e := w.Double(1, false); id != 2 || e != api.OK {
		t.Errorf("Double is %d, %d", id, e)
	}
	waits(t, w, []int{1, 2}, nil)
	if w.Lose(1, false) != api.OK || w.Lose(1, false) != api.ErrNone || w.Lose(2, true) != api.ErrNone {
		t.Error("Lose")
	}
	carries(t, w, 1, 0, api.ErrNone)
	carries(t, w, 2, 1, api.OK)
	if id, e := w.Double(1, true); id != 2 || e != api.OK {
		t.Errorf("Double back is %d, %d", id, e)
	}
	waits(t, w, nil, []int{1, 2})
	for _, back := range []bool{false, true} {
		if id, e := w.Double(9, back); id != 0 || e != api.ErrNone {
			t.Errorf("Double of none is %d, %d", id, e)
		}
	}
	if w.Lose(1, true) != api.OK {
		t.Error("Lose back")
	}
	answers(t, w, 1, api.Response{}, api.ErrNone)
	answers(t, w, 2, api.Response{Corr: 1}, api.OK)
}

func TestCutTickAndRestart(t *testing.T) { // P25.2
	w := fresh(t)
	asks(t, w, create("a", 1), 1)
	asks(t, w, create("b", 2), 2)
	asks(t, w, create("c", 3), 3)
	carries(t, w, 1, 1, api.OK)
	if e := w.Tick(7); e != api.OK || w.Broker().Now() != 7 {
		t.Errorf("Tick is %d", e)
	}
	if e := w.Tick(-1); e != api.ErrArg {
		t.Errorf("Tick(-1) is %d", e)
	}
	w.Cut(2)
	carries(t, w, 2, 2, api.OK)
	old, disk := w.Broker(), w.Disk()
	if !old.Dead() || w.Tick(1) != api.ErrOff {
		t.Error("the power does not go")
	}
	if e := w.Restart(); e != api.OK || w.Broker() == old || w.Disk() == disk || w.Broker().Dead() || w.Broker().Now() != 0 || w.Disk().Ops() > 10 {
		t.Errorf("Restart is %d", e)
	}
	waits(t, w, []int{3}, []int{1, 2})
	answers(t, w, 2, api.Response{Corr: 2, Code: int(api.ErrOff)}, api.OK)
	carries(t, w, 3, 3, api.OK)
	asks(t, w, api.Request{Kind: api.RMeta}, 4)
	carries(t, w, 4, 4, api.OK)
	answers(t, w, 4, api.Response{Names: []string{"a", "c"}, Nums: []int{1, 1}}, api.OK)
}

func TestRestartPicks(t *testing.T) { // P25.2
	for cut := range 6 {
		for pick := range 5 {
			w := fresh(t)
			w.Cut(cut)
			asks(t, w, create("a", 1), 1)
			carries(t, w, 1, 1, api.OK)
			want := w.Disk().Crash(pick, pick)
			if e := w.Restart(pick, pick); e != api.OK {
				t.Fatalf("Restart is %d", e)
			}
			if got := w.Disk(); !slices.Equal(got.Names(), want.Names()) || got.Used() != want.Used() {
				t.Errorf("cut %d, pick %d: %q, not %q", cut, pick, got.Names(), want.Names())
			}
		}
	}
}

func TestNilAndZeroWorld(t *testing.T) { // P25.2
	for _, w := range []*world.World{nil, new(world.World)} {
		id, e := w.Ask(api.Request{Kind: api.RMeta})
		if id != 0 || e != api.ErrNone || w.Raw([]byte{1}) != 0 {
			t.Error("Ask")
		}
		if id, e := w.Ask(api.Request{}); id != 0 || e != api.ErrNone {
			t.Error("Ask of none")
		}
		carries(t, w, 1, 0, api.ErrNone)
		answers(t, w, 1, api.Response{}, api.ErrNone)
		for _, back := range []bool{false, true} {
			if id, e := w.Double(1, back); id != 0 || e != api.ErrNone || w.Lose(1, back) != api.ErrNone {
				t.Error("Double or Lose")
			}
		}
		waits(t, w, nil, nil)
		w.Cut(5)
		if w.Tick(1) != api.ErrNone || w.Tick(-1) != api.ErrNone || w.Restart(1) != api.ErrNone || w.Broker() != nil || w.Disk() != nil {
			t.Error("no world has something")
		}
	}
}

// mayhem plays clients in a world that loses, doubles, and goes without power, and
// tells all that it showed.
func mayhem(t *testing.T, seed int) string {
	t.Helper()
	r := rand.New(rand.NewSource(int64(seed)))
	w := fresh(t)
	asks(t, w, create("a", 0), 1)
	carries(t, w, 1, 1, api.OK)
	var shown []string
	var makers []*client.Producer
	offsets := map[string]int{} // of each batch that was told OK
	texts := map[*client.Producer]string{}
	for id := 1; id < 3; id++ {
		p, _ := client.NewProducer(id, 0)
		makers = append(makers, p)
	}
	for i := range 400 {
		p := makers[r.Intn(2)]
		switch r.Intn(12) {
		case 0, 1, 2:
			text := fmt.Sprint("batch ", i)
			if q, e := p.Make("a", 0, []api.Record{{HasValue: true, Value: []byte(text)}, {HasValue: true, Value: []byte(text + "'")}}); e == api.OK {
				texts[p] = text
				w.Ask(clientOf(q, p == makers[0]))
			}
		case 3:
			if q, ok := p.Retry(); ok {
				w.Ask(clientOf(q, p == makers[0]))
			}
		case 4:
			w.Double(pick(r, w.Waits(false)), false)
		case 5:
			w.Double(pick(r, w.Waits(true)), true)
		case 6:
			w.Lose(pick(r, w.Waits(r.Intn(2) == 0)), r.Intn(2) == 0)
		case 7, 8:
			w.Carry(pick(r, w.Waits(false)))
		case 9, 10:
			x, e := w.Answer(pick(r, w.Waits(true)))
			for _, p := range makers {
				if offset, err := p.Done(unclient(x, p == makers[0])); e == api.OK && err == api.OK {
					offsets[texts[p]] = offset
				}
			}
			shown = append(shown, fmt.Sprint(x, e))
		default:
			if r.Intn(4) == 0 {
				w.Cut(r.Intn(6))
			}
			if w.Broker().Dead() {
				if e := w.Restart(r.Intn(9), r.Intn(99)); e != api.OK {
					t.Fatalf("Restart is %d", e)
				}
			}
		}
	}
	w.Restart(-1, -1)
	stands(t, seed, w, offsets)
	return strings.Join(shown, "\n")
}

func pick(r *rand.Rand, ids []int) int {
	if len(ids) == 0 {
		return 0
	}
	return ids[r.Intn(len(ids))]
}

// clientOf and unclient keep the two producers' answers apart.
func clientOf(q api.Request, first bool) api.Request {
	if first {
		q.Corr += 1 << 20
	}
	return q
}

func unclient(x api.Response, first bool) api.Response {
	if first {
		x.Corr -= 1 << 20
	}
	return x
}

// stands asks that each batch stands at one place at most, and where it was told to.
func stands(t *testing.T, seed int, w *world.World, offsets map[string]int) {
	t.Helper()
	places := map[string]int{}
	for r := range w.Broker().Log("a", 0).From(0) {
		if _, twice := places[string(r.Value)]; twice {
			t.Fatalf("seed %d: %q stands twice", seed, r.Value)
		}
		places[string(r.Value)] = r.Offset
	}
	for text, offset := range offsets {
		if place, ok := places[text]; !ok || place != offset || places[text+"'"] != offset+1 {
			t.Fatalf("seed %d: %q is at %d, %v, not %d", seed, text, place, ok, offset)
		}
	}
}

func TestEachBatchStandsOnce(t *testing.T) { // P25.3, and W2, W4 of DOC.md
	for seed := range 60 {
		if a, b := mayhem(t, seed), mayhem(t, seed); a != b {
			t.Fatalf("seed %d: the same done shows another thing", seed)
		}
	}
}

func TestWorldKeepsAndSharesNothing(t *testing.T) { // rule 3 of DOC.md
	w := fresh(t)
	p, _ := batch.Encode(api.Batch{Records: []api.Record{{HasValue: true, Value: []byte("v")}}})
	asks(t, w, create("a", 1), 1)
	asks(t, w, api.Request{Kind: api.RProduce, Topic: "a", Data: p}, 2)
	clear(p)
	picks := []int{1, 2}
	carries(t, w, 1, 1, api.OK)
	carries(t, w, 2, 2, api.OK)
	answers(t, w, 2, api.Response{}, api.OK)
	w.Restart(picks...)
	w.Waits(true)[0] = 99
	waits(t, w, nil, []int{1})
	if !slices.Equal(picks, []int{1, 2}) || w.Tick(math.MinInt) != api.ErrArg {
		t.Error("what was handed in is changed")
	}
}
