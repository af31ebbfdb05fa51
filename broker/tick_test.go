package broker_test

import (
	"fmt"
	"math"
	"math/rand"
	"slices"
	"strings"
	"testing"

	"cordwain/api"
	"cordwain/broker"
	"cordwain/disk"
	"cordwain/fold"
	"cordwain/group"
	"cordwain/partlog"
)

func TestTickCounts(t *testing.T) { // P22.3
	b, _ := begun(t, config())
	for _, n := range []int{-1, 1000001, math.MinInt, math.MaxInt} {
		if e := b.Tick(n); e != api.ErrArg || b.Now() != 0 {
			t.Errorf("Tick(%d) is %d, Now %d", n, e, b.Now())
		}
	}
	for _, n := range []int{0, 1, 5, 1000000, 1000000} {
		before := b.Now()
		ticks(t, b, n)
		if b.Now() != before+n {
			t.Errorf("Now is %d behind Tick(%d)", b.Now(), n)
		}
	}
}

func TestTickRetainsAndCleans(t *testing.T) { // P22.3
	c := config()
	c.Log.SegBytes, c.Log.KeepAge, c.Log.Compact = 150, 20, true
	b, _ := begun(t, c)
	for i := range 6 {
		produces(t, b, "a", 1, data(t, 0, 0, 0, "k="+strings.Repeat("v", 20+i), fmt.Sprint("l", i, "=w")))
	}
	l := b.Log("a", 1)
	records := func() (n int) {
		for range l.From(0) {
			n++
		}
		return n
	}
	if n := records(); n != 12 {
		t.Fatalf("%d records", n)
	}
	segments := len(l.Segments())
	ticks(t, b, 1)
	if n := records(); n != 8 || len(l.Segments()) != segments {
		t.Errorf("%d records behind a tick, in %d segments", n, len(l.Segments()))
	}
	ticks(t, b, 24)
	if len(l.Segments()) != segments {
		t.Errorf("%d segments at 25", len(l.Segments()))
	}
	ticks(t, b, 1)
	if len(l.Segments()) != 1 || l.Start() != l.Segments()[0].Base {
		t.Errorf("%d segments at 26", len(l.Segments()))
	}
}

func TestTickCleansTheInternalLog(t *testing.T) { // P22.3
	c := config()
	c.Log.SegBytes, c.Log.KeepBytes, c.Log.KeepAge = 150, 1, 1
	b, d := begun(t, c)
	is(t, b, joinOf("g", "", "a", "b"), api.Response{Member: "m1", Gen: 1, Leader: "m1"})
	is(t, b, commitOf("g", "m1", 1, "b", 0, 7), api.Response{})
	for i := range 50 {
		is(t, b, commitOf("g", "m1", 1, "a", 0, i), api.Response{})
	}
	full := d.Used()
	ticks(t, b, 1)
	if used := d.Used(); used > full/3 {
		t.Errorf("%d bytes of %d are left", used, full)
	}
	ticks(t, b, 8)
	for range 2 {
		is(t, b, offsetOf("g", "a", 0), api.Response{Offset: 49})
		is(t, b, offsetOf("g", "b", 0), api.Response{Offset: 7})
		b = opened(t, d.Crash(), c)
	}
	is(t, b, joinOf("g", "", "a"), api.Response{Member: "m1", Gen: 2, Leader: "m1"})
}

func TestTickOfGroups(t *testing.T) { // P22.3
	b, d := begun(t, config())
	is(t, b, joinOf("g", "", "a"), api.Response{Member: "m1", Gen: 1, Leader: "m1"})
	is(t, b, memberOf(api.RSync, "g", "m1", 1), api.Response{Names: []string{"a", "a"}, Nums: []int{0, 1}})
	ticks(t, b, 25)
	is(t, b, joinOf("g", "", "a"), api.Response{Member: "m2", Code: int(api.ErrWait)})
	ticks(t, b, 9)
	if g := b.Group("g"); g.State() != group.Completing || g.Gen() != 2 || len(g.Members()) != 1 {
		t.Errorf("the group is %d, %d, %v", g.State(), g.Gen(), g.Members())
	}
	if x := opened(t, d.Crash(), config()).Do(joinOf("g", "", "a")); x.Gen != 3 {
		t.Errorf("a generation that rose with time is not written: %d", x.Gen)
	}
	is(t, b, api.Request{Kind: api.RCreate, Topic: "c", Part: 3}, api.Response{})
	is(t, b, joinOf("g", "m2", "c"), api.Response{Member: "m2", Gen: 3, Leader: "m2"})
	is(t, b, memberOf(api.RSync, "g", "m2", 3), api.Response{Names: []string{"c", "c", "c"}, Nums: []int{0, 1, 2}})
	ticks(t, b, 30)
	if b.Group("g").State() != group.Stable {
		t.Error("the member is out too early")
	}
	ticks(t, b, 1)
	if b.Group("g").State() != group.Empty {
		t.Error("the silent member is there")
	}
}

// script is requests and ticks, by a number.
func script(t *testing.T, seed int64, n int) []api.Request {
	t.Helper()
	r := rand.New(rand.NewSource(seed))
	l := []api.Request{{Kind: api.RCreate, Topic: "a", Part: 2}, joinOf("g", "", "a", "b"), memberOf(api.RSync, "g", "m1", 1), {Kind: api.RCreate, Topic: "b", Part: 2}, joinOf("h", "", "a")}
	seqs := map[[3]int]int{}
	for range n {
		topic := []string{"a", "a", "a", "b", "b", "c"}[r.Intn(6)]
		part := r.Intn(2)
		member := fmt.Sprint("m", 1+r.Intn(2))
		g := []string{"g", "h"}[r.Intn(2)]
		switch r.Intn(16) {
		case 0:
			l = append(l, api.Request{Kind: api.RCreate, Topic: topic, Part: 1 + r.Intn(2)})
		case 1:
			if r.Intn(3) == 0 {
				l = append(l, api.Request{Kind: api.RDelete, Topic: topic})
			}
		case 2, 3, 4, 5, 6:
			id := r.Intn(3)
			key := [3]int{id, int(topic[0]), part}
			words := []string{fmt.Sprintf("k%d=%d", r.Intn(3), r.Intn(1000)), fmt.Sprintf("k%d", r.Intn(3))}
			seq := 0
			if id > 0 {
				seq = seqs[key]
				seqs[key] += 2
			}
			l = append(l, api.Request{Kind: api.RProduce, Topic: topic, Part: part, Data: data(t, id, 0, seq, words...)})
		case 7:
			l = append(l, api.Request{Kind: api.RTrim, Topic: topic, Part: part, Offset: r.Intn(20)})
		case 8:
			l = append(l, joinOf(g, "", "a", "b"))
		case 9:
			l = append(l, joinOf(g, member, []string{"a", "c"}[r.Intn(2):]...))
		case 10:
			l = append(l, memberOf(api.RSync, g, member, 1+r.Intn(4)))
		case 11:
			l = append(l, memberOf(api.RLeave, g, member, 0))
		case 12, 13:
			l = append(l, commitOf(g, member, 1+r.Intn(2), topic, part, r.Intn(100)))
		default:
			l = append(l, api.Request{Kind: -1, Max: 1 + r.Intn(12)*r.Intn(4)}) // time goes by
		}
	}
	return l
}

// shown is all that a broker shows, as a text.
func shown(b *broker.Broker) string {
	s := fmt.Sprint(b.Now(), b.Dead(), b.Topics())
	for _, x := range b.Topics() {
		for part := range x.Parts {
			l := b.Log(x.Name, part)
			s += fmt.Sprint("\n", x.Name, part, l.Start(), l.End(), l.Flushed(), l.Segments(), l.Batches(), l.Producers().Encode())
		}
	}
	for _, name := range []string{"g", "h"} {
		g := b.Group(name)
		s += fmt.Sprint("\n", name, g.State(), g.Gen(), g.Members(), g.Shares())
		for _, topic := range []string{"a", "b", "c"} {
			for part := range 2 {
				x := b.Do(offsetOf(name, topic, part))
				s += fmt.Sprint(" ", x.Code, ":", x.Offset)
			}
		}
	}
	return s
}

func TestTimeGoesByTickByTick(t *testing.T) { // P22.3, P22.6
	for seed := range 40 {
		c := config()
		c.Log.SegBytes, c.Log.Compact, c.Log.MapMost = 150, seed%2 == 0, 1+seed%4
		c.Log.KeepAge, c.Log.KeepBytes = seed%3*8, seed%5*200
		c.Session, c.Rebalance = 5+seed%9, 3
		a, b := opened(t, fresh(t, 1<<24), c), opened(t, fresh(t, 1<<24), c)
		for i, r := range script(t, int64(seed), 120) {
			if r.Kind > 0 {
				x, y := a.Do(r), b.Do(r)
				if fmt.Sprint(x) != fmt.Sprint(y) {
					t.Fatalf("seed %d, step %d: %v, but %v", seed, i, x, y)
				}
				continue
			}
			ticks(t, a, r.Max)
			for range r.Max {
				ticks(t, b, 1)
			}
			if x, y := shown(a), shown(b); x != y {
				t.Fatalf("seed %d, step %d: %s\nbut tick by tick %s", seed, i, x, y)
			}
		}
	}
}

func TestTickThatMeetsAnError(t *testing.T) { // P22.3
	c := config()
	c.Log.SegBytes, c.Log.KeepBytes = 100, 100
	for cut := 0; ; cut++ {
		b, d := begun(t, c)
		for i := range 5 {
			produces(t, b, "a", 0, data(t, 0, 0, 0, fmt.Sprint("k=", i)))
			produces(t, b, "a", 1, data(t, 0, 0, 0, fmt.Sprint("k=", i)))
		}
		d.Cut(cut)
		e := b.Tick(3)
		if e == api.OK {
			if b.Now() != 3 || b.Dead() || cut < 4 {
				t.Errorf("cut %d: Tick is OK, Now %d", cut, b.Now())
			}
			break
		}
		if e != api.ErrOff || b.Now() != 1 || !b.Dead() {
			t.Errorf("cut %d: Tick is %d, Now %d, Dead %v", cut, e, b.Now(), b.Dead())
		}
		if cut == 0 && len(b.Log("a", 1).Segments()) != 5 {
			t.Errorf("cut %d: the second log goes on", cut)
		}
	}
}

func TestTickWithoutRoomEndsAtTheFirstTick(t *testing.T) { // P22.3
	c := config()
	c.Session, c.Rebalance = 1000, 1000
	c.Log.SegBytes = 1 << 20
	for room := 380; room < 400; room++ {
		d := fresh(t, room)
		b := opened(t, d, c)
		is(t, b, api.Request{Kind: api.RCreate, Topic: "a", Part: 1}, api.Response{})
		is(t, b, joinOf("g", "", "a"), api.Response{Member: "m1", Gen: 1, Leader: "m1"})
		ticks(t, b, 2)
		for b.Do(api.Request{Kind: api.RProduce, Topic: "a", Data: data(t, 0, 0, 0, "k=v")}).Code == 0 {
		}
		refuses(t, b, joinOf("g", "m1", "b"), api.ErrFull)
		if b.Group("g").Gen() != 2 {
			t.Fatalf("the generation is %d", b.Group("g").Gen())
		}
		if e := b.Tick(100); e != api.ErrFull || b.Now() != 3 || b.Dead() {
			t.Errorf("Tick is %d, Now %d", e, b.Now())
		}
	}
}

func TestTickEndsWithTheInternalLog(t *testing.T) { // P22.3
	c := config()
	c.Log.SegBytes = 150
	b, d := begun(t, c)
	is(t, b, joinOf("g", "", "a"), api.Response{Member: "m1", Gen: 1, Leader: "m1"})
	for i := range 9 {
		is(t, b, commitOf("g", "m1", 1, "a", 0, i), api.Response{})
	}
	d.Cut(1)
	if e := b.Tick(3); e != api.ErrOff || !b.Dead() || b.Now() != 1 {
		t.Errorf("Tick is %d, Now %d", e, b.Now())
	}
}

func TestATopicThatIsDeletedAsThePowerGoesIsEmptyWhenMadeAgain(t *testing.T) { // P22.5
	for cut := range 30 {
		b, d := begun(t, config())
		is(t, b, joinOf("g", "", "a"), api.Response{Member: "m1", Gen: 1, Leader: "m1"})
		for part := range 2 {
			for range 9 {
				produces(t, b, "a", part, data(t, 0, 0, 0, "k=v", "l=w"))
			}
			is(t, b, api.Request{Kind: api.RTrim, Topic: "a", Part: part, Offset: 3}, api.Response{Offset: 3})
			is(t, b, commitOf("g", "m1", 1, "a", part, 5), api.Response{})
		}
		d.Cut(cut)
		b.Do(api.Request{Kind: api.RDelete, Topic: "a"})
		for pick := range 12 {
			left := d.Crash(pick, pick, pick)
			again := opened(t, left, config())
			if len(again.Topics()) == 2 {
				if got := fetched(t, again, "a", 1, 17, 100); got != "3-18 17:l=w" {
					t.Fatalf("cut %d, pick %d: fetched is %s", cut, pick, got)
				}
				is(t, again, offsetOf("g", "a", 1), api.Response{Offset: 5})
				continue
			}
			for _, name := range left.Crash().Names() {
				if strings.HasPrefix(name, "a-") {
					t.Fatalf("cut %d, pick %d: %q is left", cut, pick, name)
				}
			}
			is(t, again, api.Request{Kind: api.RCreate, Topic: "a", Part: 2}, api.Response{})
			for part := range 2 {
				refuses(t, again, offsetOf("g", "a", part), api.ErrNone)
				if got := fetched(t, again, "a", part, 0, 100); got != "0-0" {
					t.Fatalf("cut %d, pick %d: made again it has %s", cut, pick, got)
				}
			}
		}
	}
}

func TestMuchTimeGoesBy(t *testing.T) { // P22.3
	c := config()
	c.Log.KeepAge, c.Log.Compact, c.Log.SegBytes = 1000, true, 150
	b := opened(t, fresh(t, 1<<24), c)
	for i := range 20 {
		topic := fmt.Sprint("t", i)
		is(t, b, api.Request{Kind: api.RCreate, Topic: topic, Part: 20}, api.Response{})
		for part := range 4 {
			for range 4 {
				produces(t, b, topic, part, data(t, 0, 0, 0, "k=v", "l=w", "k"))
			}
		}
	}
	for range 50 {
		ticks(t, b, 1000000)
	}
	if b.Now() != 50000000 || len(b.Log("t3", 3).Segments()) != 1 {
		t.Errorf("Now is %d, %d segments", b.Now(), len(b.Log("t3", 3).Segments()))
	}
}

func TestBrokerBehindEachCrash(t *testing.T) { // P22.5
	for seed := range 8 {
		c := config()
		c.Log.SegBytes, c.Log.Compact, c.Log.KeepAge, c.Log.KeepBytes = 200, seed%2 == 0, seed%3*9, seed%4*300
		c.Session, c.Rebalance = 8, 3
		all := script(t, int64(seed)+500, 70)
		whole := fresh(t, 1<<24)
		run(opened(t, whole, c), all)
		for cut := range whole.Ops() {
			d := fresh(t, 1<<24)
			b := opened(t, d, c)
			d.Cut(cut)
			was := run(b, all)
			for round, picks := range [][]int{{0}, {-1, -1, -1, -1, -1}, {cut, cut * 7, cut * 3, cut}, {1, 20, 30}} {
				what := fmt.Sprintf("seed %d, cut %d, picks %v", seed, cut, picks)
				crashed := d.Crash(picks...)
				again := opened(t, crashed, c)
				behind(t, what, b, again, was)
				got := shown(again)
				if other := shown(opened(t, crashed, c)); other != got {
					t.Fatalf("%s: opened twice: %s\nnot %s", what, other, got)
				}
				if round == cut%4 {
					within(t, what, d, picks, c, got)
				}
				if again.Do(joinOf("g", "", "a")).Gen <= was.gens["g"] || again.Do(joinOf("h", "", "a")).Gen <= was.gens["h"] {
					t.Fatalf("%s: a generation comes again", what)
				}
			}
		}
	}
}

// within crashes within the opening, too.
func within(t *testing.T, what string, d *disk.Disk, picks []int, c broker.Config, want string) {
	t.Helper()
	first := d.Crash(picks...)
	opened(t, first, c)
	for cut := range first.Ops() {
		again := d.Crash(picks...)
		again.Cut(cut)
		if b, e := broker.Open(again, c); b != nil || e != api.ErrOff {
			t.Fatalf("%s: Open without power is %d", what, e)
		}
		if got := shown(opened(t, again.Crash(cut, cut, cut), c)); got != want {
			t.Fatalf("%s: crashed within Open: %s\nnot %s", what, got, want)
		}
	}
}

// history is what was told OK, and what was asked for last.
type history struct {
	last  api.Request
	asked map[place][]int // offsets of commits from the one on that was told OK last, -1 of none
	gens  map[string]int
}

type place struct {
	group, topic string
	part         int
}

// run does a script till the power goes.
func run(b *broker.Broker, all []api.Request) history {
	h := history{asked: map[place][]int{}, gens: map[string]int{}}
	for _, r := range all {
		h.last = r
		if r.Kind < 0 {
			if b.Tick(r.Max) != api.OK {
				break
			}
			continue
		}
		x := b.Do(r)
		h.gens[r.Group] = max(h.gens[r.Group], x.Gen)
		if r.Kind == api.RCommit && (x.Code == 0 || x.Code == int(api.ErrOff)) {
			place := place{r.Group, r.Topic, r.Part}
			if x.Code == 0 {
				h.asked[place] = nil
			} else if h.asked[place] == nil {
				h.asked[place] = []int{-1}
			}
			h.asked[place] = append(h.asked[place], r.Offset)
		}
		if r.Kind == api.RDelete && (x.Code == 0 || x.Code == int(api.ErrOff)) {
			for place := range h.asked {
				if place.topic == r.Topic {
					h.asked[place] = append(h.asked[place], -1)
				}
			}
		}
		if x.Code == int(api.ErrOff) {
			break
		}
	}
	return h
}

// behind compares a broker with what it was ahead of a crash.
func behind(t *testing.T, what string, was, now *broker.Broker, h history) {
	t.Helper()
	names := func(b *broker.Broker) (l []string) {
		for _, x := range b.Topics() {
			l = append(l, x.Name)
		}
		return l
	}
	before, after := names(was), names(now)
	if !slices.Equal(before, after) && (h.last.Kind != api.RCreate && h.last.Kind != api.RDelete || len(before)-len(after) > 1 || len(after)-len(before) > 1) {
		t.Fatalf("%s: topics %v, not %v", what, after, before)
	}
	for _, x := range now.Topics() {
		for part := range x.Parts {
			old, l := was.Log(x.Name, part), now.Log(x.Name, part)
			if old != nil && !grown(old, l) && !(h.last.Kind < 0 || h.last.Topic == x.Name) {
				t.Fatalf("%s: the log %s-%d is another one: %v, not %v", what, x.Name, part, l.Batches(), old.Batches())
			}
			if old != nil && l.End() < old.Flushed() {
				t.Fatalf("%s: the log %s-%d ends at %d, not %d", what, x.Name, part, l.End(), old.Flushed())
			}
			if old != nil && h.last.Kind < 0 && l.Start() == old.Start() && !fold.Same(fold.Of(l.From(l.Start())), fold.Of(old.From(old.Start()))) {
				t.Fatalf("%s: the log %s-%d says something else", what, x.Name, part)
			}
		}
	}
	for place, offsets := range h.asked {
		x := now.Do(offsetOf(place.group, place.topic, place.part))
		got := x.Offset
		if x.Code != 0 {
			got = -1
		}
		if !slices.Contains(offsets, got) {
			t.Fatalf("%s: %s is at %d of %s-%d, not at one of %v", what, place.group, got, place.topic, place.part, offsets)
		}
		if len(offsets) > 0 && offsets[len(offsets)-1] == -1 && h.last.Kind != api.RDelete && got != -1 {
			t.Fatalf("%s: a commit of a topic that was deleted is there", what)
		}
	}
}

// grown tells whether a log has what it had.
func grown(was, now *partlog.Log) bool {
	return was.Start() == now.Start() && fmt.Sprint(was.Batches()) == fmt.Sprint(now.Batches())
}
