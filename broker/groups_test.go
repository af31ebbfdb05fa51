package broker_test

import (
	"fmt"
	"strings"
	"testing"

	"cordwain/api"
	"cordwain/group"
)

func TestGroups(t *testing.T) { // P22.2
	b, _ := begun(t, config())
	for _, kind := range []int{api.RSync, api.RBeat, api.RLeave, api.RCommit} {
		refuses(t, b, memberOf(kind, "g", "m1", 0), api.ErrMember)
	}
	is(t, b, joinOf("g", "", "a", "b"), api.Response{Member: "m1", Gen: 1, Leader: "m1"})
	is(t, b, joinOf("g", "", "a"), api.Response{Member: "m2", Code: int(api.ErrWait)})
	refuses(t, b, memberOf(api.RBeat, "g", "m1", 1), api.ErrWait)
	refuses(t, b, memberOf(api.RSync, "g", "m1", 1), api.ErrWait)
	is(t, b, joinOf("g", "m2", "a"), api.Response{Member: "m2", Code: int(api.ErrWait)})
	is(t, b, joinOf("g", "m1", "a", "b"), api.Response{Member: "m1", Gen: 2, Leader: "m1"})
	is(t, b, joinOf("g", "m2", "a"), api.Response{Member: "m2", Gen: 2, Leader: "m1"})
	is(t, b, memberOf(api.RSync, "g", "m1", 2), api.Response{Names: []string{"a", "b"}, Nums: []int{0, 0}})
	is(t, b, memberOf(api.RSync, "g", "m2", 2), api.Response{Names: []string{"a"}, Nums: []int{1}})
	is(t, b, memberOf(api.RBeat, "g", "m2", 2), api.Response{})
	if g := b.Group("g"); g.State() != group.Stable || g.Gen() != 2 {
		t.Errorf("the group is %d, %d", g.State(), g.Gen())
	}
	refuses(t, b, memberOf(api.RBeat, "g", "m2", 1), api.ErrGen)
	refuses(t, b, memberOf(api.RSync, "g", "m2", 3), api.ErrGen)
	refuses(t, b, memberOf(api.RBeat, "g", "m3", 2), api.ErrMember)
	refuses(t, b, memberOf(api.RLeave, "g", "m3", 2), api.ErrMember)
	is(t, b, memberOf(api.RLeave, "g", "m1", 0), api.Response{})
	is(t, b, joinOf("g", "m2", "a"), api.Response{Member: "m2", Gen: 3, Leader: "m2"})
	refuses(t, b, joinOf("g", "m1", "a"), api.ErrMember)
	refuses(t, b, joinOf("g", "m2", strings.Fields(strings.Repeat("a ", 31))...), api.ErrArg)
	is(t, b, joinOf("h", "", "none"), api.Response{Member: "m1", Gen: 1, Leader: "m1"})
	is(t, b, memberOf(api.RSync, "h", "m1", 1), api.Response{})
	for _, kind := range []int{api.RJoin, api.RSync, api.RBeat, api.RLeave, api.RCommit, api.ROffset} {
		for _, name := range []string{"", "G", "g-1", strings.Repeat("q", 21)} {
			refuses(t, b, memberOf(kind, name, "", 0), api.ErrArg)
		}
	}
}

func TestGroupsGoRound(t *testing.T) { // P22.2
	c := config()
	c.Round = true
	b, _ := begun(t, c)
	is(t, b, joinOf("g", "", "a", "b"), api.Response{Member: "m1", Gen: 1, Leader: "m1"})
	is(t, b, joinOf("g", "", "a", "b"), api.Response{Member: "m2", Code: int(api.ErrWait)})
	is(t, b, joinOf("g", "m1", "a", "b"), api.Response{Member: "m1", Gen: 2, Leader: "m1"})
	is(t, b, memberOf(api.RSync, "g", "m1", 2), api.Response{Names: []string{"a", "b"}, Nums: []int{0, 0}})
}

func TestTwentyGroupsAtMost(t *testing.T) { // P22.2
	b, _ := begun(t, config())
	refuses(t, b, joinOf("x", "m1", "a"), api.ErrMember)
	refuses(t, b, joinOf("x", "", strings.Fields(strings.Repeat("a ", 31))...), api.ErrArg)
	if b.Group("x") != nil {
		t.Error("a group is made by a Join that is refused")
	}
	for i := range 20 {
		is(t, b, joinOf(fmt.Sprint("g", i), "", "a"), api.Response{Member: "m1", Gen: 1, Leader: "m1"})
	}
	refuses(t, b, joinOf("x", "", "a"), api.ErrFull)
	if b.Group("x") != nil {
		t.Error("one more is made")
	}
	is(t, b, joinOf("g7", "m1", "a"), api.Response{Member: "m1", Gen: 1, Leader: "m1"})
	for range 19 {
		b.Do(joinOf("g7", "", "a"))
	}
	refuses(t, b, joinOf("g7", "", "a"), api.ErrFull)
}

func TestCommits(t *testing.T) { // P22.2
	b, d := begun(t, config())
	is(t, b, joinOf("g", "", "a"), api.Response{Member: "m1", Gen: 1, Leader: "m1"})
	refuses(t, b, offsetOf("g", "a", 0), api.ErrNone)
	is(t, b, commitOf("g", "m1", 1, "a", 0, 5), api.Response{})
	is(t, b, offsetOf("g", "a", 0), api.Response{Offset: 5})
	is(t, b, commitOf("g", "m1", 1, "a", 1, 1<<62), api.Response{})
	is(t, b, commitOf("g", "m1", 1, "a", 0, 3), api.Response{})
	is(t, b, offsetOf("g", "a", 0), api.Response{Offset: 3})
	for _, c := range []struct {
		r    api.Request
		want api.Errno
	}{
		{commitOf("h", "m1", 1, "a", 0, 9), api.ErrMember}, {commitOf("g", "m2", 1, "a", 0, 9), api.ErrMember}, {commitOf("g", "m1", 0, "a", 0, 9), api.ErrGen}, {commitOf("g", "m1", 2, "a", 0, 9), api.ErrGen},
		{commitOf("g", "m1", 1, "a", 2, 9), api.ErrNone}, {commitOf("g", "m1", 1, "c", 0, 9), api.ErrNone}, {commitOf("g", "m1", 1, "a", 0, -1), api.ErrArg}, {commitOf("g", "m1", 1, "a", 0, 1<<62+1), api.ErrArg},
		{commitOf("g", "m2", 1, "c", 0, -1), api.ErrMember}, {commitOf("g", "m1", 2, "c", 0, -1), api.ErrGen}, {commitOf("g", "m1", 1, "c", 0, -1), api.ErrNone},
		{offsetOf("g", "a", 2), api.ErrNone}, {offsetOf("h", "a", 0), api.ErrNone}, {offsetOf("g", "b", 0), api.ErrNone}, {offsetOf("g", "", 0), api.ErrNone},
	} {
		refuses(t, b, c.r, c.want)
	}
	b = opened(t, d.Crash(), config())
	is(t, b, offsetOf("g", "a", 0), api.Response{Offset: 3})
	is(t, b, offsetOf("g", "a", 1), api.Response{Offset: 1 << 62})
	refuses(t, b, commitOf("g", "m1", 1, "a", 0, 9), api.ErrMember)
}

func TestGenerationsRiseAcrossCrashes(t *testing.T) { // P22.1, P22.5
	b, d := begun(t, config())
	for gen := 1; gen < 12; gen++ {
		is(t, b, joinOf("g", "", "a"), api.Response{Member: "m1", Gen: gen, Leader: "m1"})
		if gen%2 == 0 {
			is(t, b, memberOf(api.RLeave, "g", "m1", 0), api.Response{})
			gen++
			is(t, b, joinOf("g", "", "a"), api.Response{Member: "m2", Gen: gen, Leader: "m2"})
		}
		d = d.Crash()
		b = opened(t, d, config())
		if g := b.Group("g"); g != nil && (g.State() != group.Empty || g.Gen() != gen) {
			t.Errorf("behind a crash the group is %d, %d", g.State(), g.Gen())
		}
		refuses(t, b, memberOf(api.RBeat, "g", "m1", gen), api.ErrMember)
	}
}

func TestAGenerationIsWrittenAheadOfAllThatTellsIt(t *testing.T) { // P22.2
	c := config()
	c.Session, c.Rebalance = 1000, 5
	// rises prepares a group that is formed by time alone, within the next call: generation 2.
	rises := func() (func(r api.Request) api.Response, func() int) {
		b, d := begun(t, c)
		b.Do(joinOf("g", "", "a"))
		b.Do(memberOf(api.RSync, "g", "m1", 1))
		b.Do(joinOf("g", "", "b"))
		g := b.Group("g")
		if g.State() != group.Preparing {
			t.Fatal("not prepared")
		}
		g.Tick(b.Topics(), 5)
		if g.Gen() != 2 {
			t.Fatalf("the generation is %d", g.Gen())
		}
		return b.Do, func() int {
			x := opened(t, d.Crash(), c).Do(joinOf("g", "", "a"))
			return x.Gen
		}
	}
	for what, r := range map[string]api.Request{
		"RJoin": joinOf("g", "m2", "b"), "RSync": memberOf(api.RSync, "g", "m2", 2), "RBeat": memberOf(api.RBeat, "g", "m2", 2), "RLeave": memberOf(api.RLeave, "g", "m2", 2), "RCommit": commitOf("g", "m2", 2, "a", 0, 1),
		"RSync of none": memberOf(api.RSync, "g", "m9", 2), "RBeat of none": memberOf(api.RBeat, "g", "m9", 2), "RLeave of none": memberOf(api.RLeave, "g", "m9", 2), "RCommit of none": commitOf("g", "m9", 2, "a", 0, 1), "RJoin of none": joinOf("g", "m9", "b"), "RCommit nowhere": commitOf("g", "m2", 2, "none", 0, 1),
	} {
		do, floor := rises()
		if gen := floor(); gen != 2 {
			t.Errorf("%s: the floor is %d ahead of it", what, gen-1)
		}
		do(r)
		if gen := floor(); gen != 3 {
			t.Errorf("%s: the floor is %d", what, gen-1)
		}
	}
}

func TestErrorOfTheWrittenGenerationIsTold(t *testing.T) { // P22.2
	for room := range 400 {
		d := fresh(t, room)
		b := opened(t, d, config())
		if b.Do(api.Request{Kind: api.RCreate, Topic: "a", Part: 1}).Code != 0 {
			continue
		}
		x := b.Do(joinOf("g", "", "a"))
		switch api.Errno(x.Code) {
		case api.OK:
			is(t, b, memberOf(api.RSync, "g", "m1", 1), api.Response{Names: []string{"a"}, Nums: []int{0}})
			return
		case api.ErrFull:
			is(t, b, joinOf("g", "", "a"), api.Response{Code: int(api.ErrFull)})
			if b.Dead() || b.Group("g") != nil {
				t.Fatalf("room %d: a group is made, or the broker is dead", room)
			}
		default:
			t.Fatalf("room %d: RJoin is %d", room, x.Code)
		}
	}
	t.Error("no room is enough")
}

func TestDeletedTopicsHaveNoCommits(t *testing.T) { // P22.2
	b, d := begun(t, config())
	is(t, b, joinOf("g", "", "a", "b"), api.Response{Member: "m1", Gen: 1, Leader: "m1"})
	for part := range 2 {
		is(t, b, commitOf("g", "m1", 1, "a", part, 5+part), api.Response{})
	}
	is(t, b, commitOf("g", "m1", 1, "b", 0, 9), api.Response{})
	none := func(what string, x int) {
		t.Helper()
		for part := range 2 {
			refuses(t, b, offsetOf("g", "a", part), api.ErrNone)
		}
		is(t, b, offsetOf("g", "b", 0), api.Response{Offset: 9})
		if t.Failed() {
			t.Fatal(what, x)
		}
	}
	is(t, b, api.Request{Kind: api.RDelete, Topic: "a"}, api.Response{})
	none("deleted", 0)
	for i := range 4 {
		d = d.Crash()
		b = opened(t, d, config())
		none("behind a crash", i)
		switch i {
		case 0:
			is(t, b, api.Request{Kind: api.RCreate, Topic: "a", Part: 2}, api.Response{})
			none("created again", i)
		case 2:
			ticks(t, b, 50)
			is(t, b, api.Request{Kind: api.RDelete, Topic: "a"}, api.Response{})
			is(t, b, api.Request{Kind: api.RCreate, Topic: "a", Part: 2}, api.Response{})
		}
	}
}

func TestDeletedTopicsHaveNoFiles(t *testing.T) { // P22.2
	b, d := begun(t, config())
	for part := range 2 {
		for i := range 20 {
			produces(t, b, "a", part, data(t, 5, 0, 2*i, "k=v", "l=w"))
		}
		is(t, b, api.Request{Kind: api.RTrim, Topic: "a", Part: part, Offset: 11}, api.Response{Offset: 11})
	}
	produces(t, b, "b", 0, data(t, 0, 0, 0, "k=v"))
	is(t, b, api.Request{Kind: api.RDelete, Topic: "a"}, api.Response{})
	for _, names := range [][]string{d.Names(), d.Crash().Names()} {
		for _, name := range names {
			if strings.HasPrefix(name, "a-") {
				t.Errorf("%q is left", name)
			}
		}
	}
	if b.Log("a", 0) != nil || b.Log("a", 1) != nil || b.Log("b", 0) == nil {
		t.Error("the logs that are gone are others")
	}
	is(t, b, api.Request{Kind: api.RCreate, Topic: "a", Part: 1}, api.Response{})
	if got := fetched(t, b, "a", 0, 0, 100); got != "0-0" {
		t.Errorf("made again it has %s", got)
	}
	is(t, b, api.Request{Kind: api.RProduce, Topic: "a", Data: data(t, 5, 0, 0, "new=1")}, api.Response{})
	b = opened(t, d.Crash(), config())
	if got := fetched(t, b, "a", 0, 0, 100); got != "0-1 0:new=1" {
		t.Errorf("behind a crash it has %s", got)
	}
	if got := fetched(t, b, "b", 0, 0, 100); got != "0-1 0:k=v" {
		t.Errorf("another topic has %s", got)
	}
}
