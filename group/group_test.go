package group_test

import (
	"fmt"
	"math"
	"math/rand"
	"slices"
	"strings"
	"testing"

	"cordwain/api"
	"cordwain/assign"
	"cordwain/group"
)

// fresh is a group of sessions of 10 ticks, and rebalances of 5.
func fresh(t *testing.T) *group.Group {
	t.Helper()
	g, e := group.New(10, 5, 0, false)
	if e != api.OK || g == nil {
		t.Fatalf("New is %d", e)
	}
	return g
}

func topics() []assign.Topic {
	return []assign.Topic{{Name: "a", Parts: 3}, {Name: "b", Parts: 2}}
}

// told is slots as a text.
func told(slots []api.Slot) string {
	var l []string
	for _, s := range slots {
		l = append(l, fmt.Sprint(s.Topic, s.Part))
	}
	return strings.Join(l, " ")
}

// is compares all that a group shows: its state, generation, members, and shares.
func is(t *testing.T, g *group.Group, want string) {
	t.Helper()
	var shares []string
	for _, x := range g.Shares() {
		shares = append(shares, x.Member+":"+strings.ReplaceAll(told(x.Slots), " ", "+"))
	}
	state := []string{"none", "empty", "preparing", "completing", "stable"}[g.State()]
	got := fmt.Sprintf("%s %d %v %v", state, g.Gen(), g.Members(), shares)
	if got != want {
		t.Errorf("it is %s, not %s", got, want)
	}
	leader := ""
	if l := g.Members(); len(l) > 0 {
		leader = l[0]
	}
	if g.Leader() != leader {
		t.Errorf("the leader is %q, not %q", g.Leader(), leader)
	}
}

func joins(t *testing.T, g *group.Group, member, names string, now int, id string, gen int, e api.Errno) {
	t.Helper()
	if i, n, err := g.Join(member, strings.Fields(names), topics(), now); i != id || n != gen || err != e {
		t.Errorf("Join(%q) at %d is %q, %d, %d, not %q, %d, %d", member, now, i, n, err, id, gen, e)
	}
}

func syncs(t *testing.T, g *group.Group, member string, gen, now int, want string, e api.Errno) {
	t.Helper()
	if slots, err := g.Sync(member, gen, now); told(slots) != want || err != e {
		t.Errorf("Sync(%q, %d) at %d is %q, %d, not %q, %d", member, gen, now, told(slots), err, want, e)
	}
}

func beats(t *testing.T, g *group.Group, member string, gen, now int, e api.Errno) {
	t.Helper()
	if err := g.Beat(member, gen, now); err != e {
		t.Errorf("Beat(%q, %d) at %d is %d, not %d", member, gen, now, err, e)
	}
}

func leaves(t *testing.T, g *group.Group, member string, now int, e api.Errno) {
	t.Helper()
	if err := g.Leave(member, topics(), now); err != e {
		t.Errorf("Leave(%q) at %d is %d, not %d", member, now, err, e)
	}
}

// stable is a group of m1 and m2, stable in generation 2, all of whom were heard at 1.
func stable(t *testing.T) *group.Group {
	t.Helper()
	g := fresh(t)
	joins(t, g, "", "a", 0, "m1", 1, api.OK)
	joins(t, g, "", "a", 1, "m2", 0, api.ErrWait)
	joins(t, g, "m1", "a", 1, "m1", 2, api.OK)
	syncs(t, g, "m1", 2, 1, "a0 a1", api.OK)
	syncs(t, g, "m2", 2, 1, "a2", api.OK)
	is(t, g, "stable 2 [m1 m2] [m1:a0+a1 m2:a2]")
	return g
}

func TestNew(t *testing.T) { // P17.1
	for _, c := range []struct {
		session, rebalance, gen int
		want                    api.Errno
	}{
		{1, 1, 0, api.OK}, {1000000, 1000000, 1 << 40, api.OK},
		{0, 1, 0, api.ErrArg}, {1, 0, 0, api.ErrArg}, {1, 1, -1, api.ErrArg}, {1000001, 1, 0, api.ErrArg}, {1, 1000001, 0, api.ErrArg}, {1, 1, 1<<40 + 1, api.ErrArg}, {math.MinInt, 1, 0, api.ErrArg}, {1, math.MaxInt, 0, api.ErrArg},
	} {
		g, e := group.New(c.session, c.rebalance, c.gen, true)
		if e != c.want || (g == nil) != (e != api.OK) {
			t.Errorf("New(%d, %d, %d) is %d", c.session, c.rebalance, c.gen, e)
		}
		if g != nil {
			is(t, g, fmt.Sprintf("empty %d [] []", c.gen))
		}
	}
	g, _ := group.New(10, 5, 41, false)
	joins(t, g, "", "a", 0, "m1", 42, api.OK)
}

func TestOneAlone(t *testing.T) { // P17.3, P17.4
	g := fresh(t)
	joins(t, g, "", "a b", 0, "m1", 1, api.OK)
	is(t, g, "completing 1 [m1] [m1:a0+a1+a2+b0+b1]")
	joins(t, g, "m1", "a b", 0, "m1", 1, api.OK)
	beats(t, g, "m1", 1, 0, api.OK)
	is(t, g, "completing 1 [m1] [m1:a0+a1+a2+b0+b1]")
	syncs(t, g, "m1", 1, 0, "a0 a1 a2 b0 b1", api.OK)
	is(t, g, "stable 1 [m1] [m1:a0+a1+a2+b0+b1]")
	syncs(t, g, "m1", 1, 0, "a0 a1 a2 b0 b1", api.OK)
	joins(t, g, "m1", "a b", 0, "m1", 1, api.OK)
	is(t, g, "stable 1 [m1] [m1:a0+a1+a2+b0+b1]")
	joins(t, g, "m1", "b a", 0, "m1", 2, api.OK)
	is(t, g, "completing 2 [m1] [m1:a0+a1+a2+b0+b1]")
	joins(t, g, "m1", "b", 0, "m1", 3, api.OK)
	is(t, g, "completing 3 [m1] [m1:b0+b1]")
	leaves(t, g, "m1", 0, api.OK)
	is(t, g, "empty 3 [] []")
	joins(t, g, "", "none", 0, "m2", 4, api.OK)
	is(t, g, "completing 4 [m2] [m2:]")
}

func TestJoinRefuses(t *testing.T) { // P17.3
	g := stable(t)
	joins(t, g, "m3", "a", 2, "", 0, api.ErrMember)
	joins(t, g, "m1 ", "a", 2, "", 0, api.ErrMember)
	many := strings.Repeat("a ", 31)
	joins(t, g, "m1", many, 2, "", 0, api.ErrArg)
	joins(t, g, "", many, 2, "", 0, api.ErrArg)
	joins(t, g, "none", many, 2, "", 0, api.ErrArg)
	is(t, g, "stable 2 [m1 m2] [m1:a0+a1 m2:a2]")
	joins(t, g, "", many[2:], 2, "m3", 0, api.ErrWait)
	g = fresh(t)
	joins(t, g, "", "a", 0, "m1", 1, api.OK)
	for i := 2; i <= 20; i++ {
		joins(t, g, "", "a", 0, fmt.Sprint("m", i), 0, api.ErrWait)
	}
	joins(t, g, "", "a", 0, "", 0, api.ErrFull)
	joins(t, g, "", many, 0, "", 0, api.ErrArg)
	if len(g.Members()) != 20 {
		t.Errorf("%d members", len(g.Members()))
	}
	leaves(t, g, "m7", 0, api.OK)
	joins(t, g, "", "a", 0, "m21", 0, api.ErrWait)
	if l := g.Members(); len(l) != 20 || l[0] != "m1" || l[5] != "m6" || l[6] != "m8" || l[19] != "m21" || g.Leader() != "m1" {
		t.Errorf("the members are %v", l)
	}
}

func TestRebalance(t *testing.T) { // P17.3, P17.4
	g := stable(t)
	joins(t, g, "", "a b", 2, "m3", 0, api.ErrWait)
	is(t, g, "preparing 2 [m1 m2 m3] []")
	beats(t, g, "m1", 2, 2, api.ErrWait)
	syncs(t, g, "m2", 2, 2, "", api.ErrWait)
	beats(t, g, "m3", 2, 2, api.ErrWait)
	beats(t, g, "m3", 1, 2, api.ErrGen)
	beats(t, g, "m3", 3, 2, api.ErrGen)
	joins(t, g, "m3", "b", 2, "m3", 0, api.ErrWait)
	joins(t, g, "m1", "a", 3, "m1", 0, api.ErrWait)
	joins(t, g, "m2", "a", 3, "m2", 3, api.OK)
	is(t, g, "completing 3 [m1 m2 m3] [m1:a0+a1 m2:a2 m3:b0+b1]")
	syncs(t, g, "m3", 3, 3, "b0 b1", api.OK)
	syncs(t, g, "m1", 2, 3, "", api.ErrGen)
	syncs(t, g, "m1", 4, 3, "", api.ErrGen)
	syncs(t, g, "none", 3, 3, "", api.ErrMember)
	syncs(t, g, "m1", 3, 3, "a0 a1", api.OK)
	is(t, g, "completing 3 [m1 m2 m3] [m1:a0+a1 m2:a2 m3:b0+b1]")
	joins(t, g, "m1", "a", 3, "m1", 3, api.OK)
	syncs(t, g, "m2", 3, 3, "a2", api.OK)
	is(t, g, "stable 3 [m1 m2 m3] [m1:a0+a1 m2:a2 m3:b0+b1]")
	joins(t, g, "m2", "b", 3, "m2", 0, api.ErrWait)
	is(t, g, "preparing 3 [m1 m2 m3] []")
	joins(t, g, "m1", "a", 3, "m1", 0, api.ErrWait)
	joins(t, g, "m3", "b", 3, "m3", 4, api.OK)
	is(t, g, "completing 4 [m1 m2 m3] [m1:a0+a1+a2 m2:b0 m3:b1]")
	joins(t, g, "m1", "b", 3, "m1", 0, api.ErrWait)
	is(t, g, "preparing 4 [m1 m2 m3] []")
}

func TestTopicsCountAsTheyStandWhenItIsFormed(t *testing.T) { // P17.3
	g := fresh(t)
	if _, _, e := g.Join("", []string{"a", "b"}, nil, 0); e != api.OK {
		t.Fatal(e)
	}
	is(t, g, "completing 1 [m1] [m1:]")
	joins(t, g, "", "a", 0, "m2", 0, api.ErrWait)
	if _, _, e := g.Join("m1", []string{"b"}, []assign.Topic{{Name: "b", Parts: 1}, {Name: "a", Parts: 1}}, 0); e != api.OK {
		t.Fatal(e)
	}
	is(t, g, "completing 2 [m1 m2] [m1:b0 m2:a0]")
	if _, _, e := g.Join("m1", nil, []assign.Topic{{Name: "a", Parts: 1}, {Name: "a", Parts: 1}}, 0); e != api.ErrWait {
		t.Fatal(e)
	}
	if _, _, e := g.Join("m2", nil, []assign.Topic{{Name: "a", Parts: 1}, {Name: "a", Parts: 1}}, 0); e != api.OK {
		t.Fatal(e)
	}
	is(t, g, "completing 3 [m1 m2] []")
	syncs(t, g, "m1", 3, 0, "", api.OK)
	syncs(t, g, "m2", 3, 0, "", api.OK)
	is(t, g, "stable 3 [m1 m2] []")
}

func TestRound(t *testing.T) { // Words of chapter 17
	g, _ := group.New(10, 5, 0, true)
	joins(t, g, "", "a b", 0, "m1", 1, api.OK)
	joins(t, g, "", "a b", 0, "m2", 0, api.ErrWait)
	joins(t, g, "m1", "a b", 0, "m1", 2, api.OK)
	is(t, g, "completing 2 [m1 m2] [m1:a0+a2+b1 m2:a1+b0]")
}

func TestSharesAreByIDs(t *testing.T) { // Words of chapter 17
	g := fresh(t)
	joins(t, g, "", "a", 0, "m1", 1, api.OK)
	for i := 2; i <= 10; i++ {
		joins(t, g, "", "a", 0, fmt.Sprint("m", i), 0, api.ErrWait)
	}
	for i := 3; i <= 9; i++ {
		leaves(t, g, fmt.Sprint("m", i), 0, api.OK)
	}
	joins(t, g, "m1", "a", 0, "m1", 2, api.OK)
	is(t, g, "completing 2 [m1 m2 m10] [m1:a0 m10:a1 m2:a2]")
}

func TestLeave(t *testing.T) { // P17.4
	g := stable(t)
	leaves(t, g, "m3", 2, api.ErrMember)
	leaves(t, g, "", 2, api.ErrMember)
	is(t, g, "stable 2 [m1 m2] [m1:a0+a1 m2:a2]")
	leaves(t, g, "m1", 2, api.OK)
	is(t, g, "preparing 2 [m2] []")
	leaves(t, g, "m1", 2, api.ErrMember)
	joins(t, g, "m2", "a", 2, "m2", 3, api.OK)
	is(t, g, "completing 3 [m2] [m2:a0+a1+a2]")
	joins(t, g, "", "a", 2, "m3", 0, api.ErrWait)
	joins(t, g, "", "a", 2, "m4", 0, api.ErrWait)
	leaves(t, g, "m4", 2, api.OK)
	is(t, g, "preparing 3 [m2 m3] []")
	leaves(t, g, "m2", 2, api.OK)
	is(t, g, "completing 4 [m3] [m3:a0+a1+a2]")
	joins(t, g, "", "a", 2, "m5", 0, api.ErrWait)
	leaves(t, g, "m5", 2, api.OK)
	leaves(t, g, "m3", 2, api.OK)
	is(t, g, "empty 4 [] []")
	joins(t, g, "", "a", 2, "m6", 5, api.OK)
	leaves(t, g, "m6", 2, api.OK)
	is(t, g, "empty 5 [] []")
}

func TestLeaveOfTheOneThatHasNotJoined(t *testing.T) { // P17.4
	g := stable(t)
	joins(t, g, "m1", "b", 2, "m1", 0, api.ErrWait)
	leaves(t, g, "m2", 2, api.OK)
	is(t, g, "completing 3 [m1] [m1:b0+b1]")
}

func TestSilentMembersAreOut(t *testing.T) { // P17.2
	g := stable(t)
	g.Tick(topics(), 11)
	is(t, g, "stable 2 [m1 m2] [m1:a0+a1 m2:a2]")
	beats(t, g, "m2", 2, 11, api.OK)
	g.Tick(topics(), 12)
	is(t, g, "preparing 2 [m2] []")
	joins(t, g, "m2", "a", 12, "m2", 3, api.OK)
	is(t, g, "completing 3 [m2] [m2:a0+a1+a2]")
	g = stable(t)
	g.Tick(topics(), 12)
	is(t, g, "empty 2 [] []")
	beats(t, g, "m1", 2, 12, api.ErrMember)
	joins(t, g, "", "a", 12, "m3", 3, api.OK)
	g = stable(t)
	beats(t, g, "m1", 2, 12, api.ErrMember)
	is(t, g, "empty 2 [] []")
	for _, heard := range []func(g *group.Group){
		func(g *group.Group) { joins(t, g, "m1", "a", 9, "m1", 2, api.OK) },
		func(g *group.Group) { syncs(t, g, "m1", 2, 9, "a0 a1", api.OK) },
		func(g *group.Group) { beats(t, g, "m1", 2, 9, api.OK) },
	} {
		g = stable(t)
		heard(g)
		g.Tick(topics(), 19)
		is(t, g, "preparing 2 [m1] []")
	}
	for _, unheard := range []func(g *group.Group){
		func(g *group.Group) { beats(t, g, "m1", 1, 9, api.ErrGen) },
		func(g *group.Group) { syncs(t, g, "m1", 3, 9, "", api.ErrGen) },
		func(g *group.Group) {
			if g.Fence("m1", 2) != api.OK {
				t.Error("Fence refuses")
			}
		},
	} {
		g = stable(t)
		unheard(g)
		g.Tick(topics(), 12)
		is(t, g, "empty 2 [] []")
	}
}

func TestSilentMembersInPreparing(t *testing.T) { // P17.2
	g, _ := group.New(10, 100, 0, false)
	joins(t, g, "", "a", 0, "m1", 1, api.OK)
	joins(t, g, "", "a", 5, "m2", 0, api.ErrWait)
	g.Tick(topics(), 10)
	is(t, g, "preparing 1 [m1 m2] []")
	g.Tick(topics(), 11)
	is(t, g, "completing 2 [m2] [m2:a0+a1+a2]")
	joins(t, g, "", "a", 12, "m3", 0, api.ErrWait)
	beats(t, g, "m2", 2, 14, api.ErrWait)
	g.Tick(topics(), 23)
	is(t, g, "preparing 2 [m2] []")
	beats(t, g, "m2", 2, 24, api.ErrWait)
	g.Tick(topics(), 34)
	is(t, g, "preparing 2 [m2] []")
	g.Tick(topics(), 35)
	is(t, g, "empty 2 [] []")
}

func TestFormedWhenTimeIsOver(t *testing.T) { // P17.1, P17.2
	g := stable(t)
	joins(t, g, "", "a", 2, "m3", 0, api.ErrWait)
	g.Tick(topics(), 6)
	is(t, g, "preparing 2 [m1 m2 m3] []")
	g.Tick(topics(), 7)
	is(t, g, "completing 3 [m3] [m3:a0+a1+a2]")
	g = stable(t)
	leaves(t, g, "m1", 2, api.OK)
	g.Tick(topics(), 6)
	is(t, g, "preparing 2 [m2] []")
	g.Tick(topics(), 7)
	is(t, g, "empty 2 [] []")
	g = stable(t)
	joins(t, g, "", "a", 2, "m3", 0, api.ErrWait)
	joins(t, g, "m1", "a", 7, "", 0, api.ErrMember)
	is(t, g, "completing 3 [m3] [m3:a0+a1+a2]")
	g = stable(t)
	joins(t, g, "", "a", 2, "m3", 0, api.ErrWait)
	joins(t, g, "m1", "a", 6, "m1", 0, api.ErrWait)
	joins(t, g, "", "a", 7, "m4", 0, api.ErrWait)
	is(t, g, "preparing 3 [m1 m3 m4] []")
}

func TestThoseThatDoNotSyncAreOut(t *testing.T) { // P17.2
	g := stable(t)
	joins(t, g, "m1", "b", 2, "m1", 0, api.ErrWait)
	joins(t, g, "m2", "a", 3, "m2", 3, api.OK)
	syncs(t, g, "m2", 3, 4, "a0 a1 a2", api.OK)
	beats(t, g, "m1", 3, 7, api.OK)
	is(t, g, "completing 3 [m1 m2] [m1:b0+b1 m2:a0+a1+a2]")
	g.Tick(topics(), 8)
	is(t, g, "preparing 3 [m2] []")
	g = fresh(t)
	joins(t, g, "", "a", 0, "m1", 1, api.OK)
	g.Tick(topics(), 4)
	is(t, g, "completing 1 [m1] [m1:a0+a1+a2]")
	g.Tick(topics(), 5)
	is(t, g, "empty 1 [] []")
	g = fresh(t)
	joins(t, g, "", "a", 0, "m1", 1, api.OK)
	syncs(t, g, "m1", 1, 5, "", api.ErrMember)
	is(t, g, "empty 1 [] []")
	g = fresh(t)
	joins(t, g, "", "a", 0, "m1", 1, api.OK)
	syncs(t, g, "m1", 1, 4, "a0 a1 a2", api.OK)
	g.Tick(topics(), 14)
	is(t, g, "stable 1 [m1] [m1:a0+a1+a2]")
}

func TestSilentMembersInCompleting(t *testing.T) { // P17.2
	g, _ := group.New(3, 100, 0, false)
	joins(t, g, "", "a", 0, "m1", 1, api.OK)
	joins(t, g, "", "a", 0, "m2", 0, api.ErrWait)
	joins(t, g, "m1", "a", 0, "m1", 2, api.OK)
	syncs(t, g, "m1", 2, 3, "a0 a1", api.OK)
	g.Tick(topics(), 4)
	is(t, g, "preparing 2 [m1] []")
	g, _ = group.New(3, 100, 0, false)
	joins(t, g, "", "a", 0, "m1", 1, api.OK)
	g.Tick(topics(), 4)
	is(t, g, "empty 1 [] []")
}

func TestTimeNeverGoesBack(t *testing.T) { // Words of chapter 17
	g := stable(t)
	g.Tick(topics(), 11)
	beats(t, g, "m1", 2, 3, api.OK)
	g.Tick(topics(), 1)
	is(t, g, "stable 2 [m1 m2] [m1:a0+a1 m2:a2]")
	g.Tick(topics(), 21)
	is(t, g, "preparing 2 [m1] []")
	beats(t, g, "m1", 2, 4, api.ErrWait)
	g.Tick(topics(), math.MinInt)
	g.Tick(topics(), 25)
	is(t, g, "preparing 2 [m1] []")
	g.Tick(topics(), 26)
	is(t, g, "empty 2 [] []")
	g = fresh(t)
	joins(t, g, "", "a", math.MinInt, "m1", 1, api.OK)
	g.Tick(topics(), math.MaxInt)
	is(t, g, "empty 1 [] []")
	g = fresh(t)
	joins(t, g, "", "a", -100, "m1", 1, api.OK)
	syncs(t, g, "m1", 1, -96, "a0 a1 a2", api.OK)
	g.Tick(topics(), -86)
	is(t, g, "stable 1 [m1] [m1:a0+a1+a2]")
	g.Tick(topics(), -85)
	is(t, g, "empty 1 [] []")
}

func TestTimeGoesByAheadOfEachCall(t *testing.T) { // P17.1
	many := strings.Fields(strings.Repeat("a ", 31))
	for what, call := range map[string]func(g *group.Group){
		"Join":                   func(g *group.Group) { g.Join("m9", nil, topics(), 12) },
		"Join that is too great": func(g *group.Group) { g.Join("", many, topics(), 12) },
		"Sync":                   func(g *group.Group) { g.Sync("m9", 2, 12) },
		"Beat":                   func(g *group.Group) { g.Beat("m9", 9, 12) },
		"Leave":                  func(g *group.Group) { g.Leave("m9", topics(), 12) },
		"Tick":                   func(g *group.Group) { g.Tick(topics(), 12) },
	} {
		g := stable(t)
		call(g)
		if g.State() != group.Empty {
			t.Errorf("%s: the silent ones are there", what)
		}
	}
}

func TestSyncAndBeatGoByTheTopicsThatWereHandedInLast(t *testing.T) { // P17.1
	for _, call := range []func(g *group.Group){
		func(g *group.Group) { syncs(t, g, "m2", 2, 7, "", api.ErrMember) },
		func(g *group.Group) { beats(t, g, "m2", 2, 7, api.ErrMember) },
	} {
		g := stable(t)
		joins(t, g, "", "a b", 2, "m3", 0, api.ErrWait)
		last := []assign.Topic{{Name: "b", Parts: 1}}
		g.Tick(last, 3)
		last[0] = assign.Topic{Name: "a", Parts: 9}
		call(g)
		is(t, g, "completing 3 [m3] [m3:b0]")
	}
	g := stable(t)
	joins(t, g, "", "a b", 2, "m3", 0, api.ErrWait)
	if e := g.Leave("m9", []assign.Topic{{Name: "b", Parts: 2}}, 3); e != api.ErrMember {
		t.Fatal(e)
	}
	beats(t, g, "m3", 3, 7, api.OK)
	is(t, g, "completing 3 [m3] [m3:b0+b1]")
}

func TestFence(t *testing.T) { // P17.4
	g := stable(t)
	for _, c := range []struct {
		member string
		gen    int
		want   api.Errno
	}{
		{"m1", 2, api.OK}, {"m2", 2, api.OK}, {"m3", 2, api.ErrMember}, {"", 2, api.ErrMember}, {"m1", 1, api.ErrGen}, {"m1", 3, api.ErrGen}, {"m3", 1, api.ErrMember},
	} {
		if e := g.Fence(c.member, c.gen); e != c.want {
			t.Errorf("Fence(%q, %d) is %d", c.member, c.gen, e)
		}
	}
	joins(t, g, "", "a", 2, "m3", 0, api.ErrWait)
	if g.Fence("m3", 2) != api.OK || g.Fence("m1", 2) != api.OK {
		t.Error("Fence refuses in Preparing")
	}
}

func TestNilGroup(t *testing.T) { // P17.5
	var g *group.Group
	id, gen, e := g.Join("", strings.Fields(strings.Repeat("a ", 31)), nil, 0)
	slots, s := g.Sync("m1", 0, 0)
	if id != "" || gen != 0 || e != api.ErrMember || slots != nil || s != api.ErrMember || g.Beat("m1", 0, 0) != api.ErrMember || g.Leave("m1", nil, 0) != api.ErrMember || g.Fence("m1", 0) != api.ErrMember {
		t.Error("a nil Group has a member")
	}
	g.Tick(topics(), 5)
	if is(t, g, "none 0 [] []"); g.Leader() != "" {
		t.Error("a nil Group has a leader")
	}
	g = new(group.Group)
	g.Tick(topics(), 5)
	g.Join("", nil, topics(), 5)
	g.Sync("m1", 1, 5)
}

func TestGroupKeepsAndSharesNothing(t *testing.T) { // P17.6
	g := fresh(t)
	names, all := []string{"a"}, topics()
	if _, _, e := g.Join("", names, all, 0); e != api.OK {
		t.Fatal(e)
	}
	names[0], all[0].Name = "b", "z"
	joins(t, g, "m1", "a", 0, "m1", 1, api.OK)
	slots, _ := g.Sync("m1", 1, 0)
	slots[0] = api.Slot{}
	g.Shares()[0].Slots[1] = api.Slot{}
	g.Shares()[0].Member = "x"
	g.Members()[0] = "x"
	is(t, g, "stable 1 [m1] [m1:a0+a1+a2]")
	l := []assign.Topic{{Name: "b", Parts: 1}, {Name: "a", Parts: 1}}
	g.Tick(l, 1)
	if l[0].Name != "b" {
		t.Error("what was handed in is changed")
	}
}

func TestGenerationsRiseAndSlotsAreOfOne(t *testing.T) { // P17.6
	for seed := range 60 {
		r := rand.New(rand.NewSource(int64(seed)))
		g, _ := group.New(1+r.Intn(12), 1+r.Intn(6), 0, seed%2 == 0)
		now, gen := 0, 0
		shares := map[int]string{}
		for range 400 {
			now += r.Intn(2)
			id := fmt.Sprint("m", 1+r.Intn(6))
			switch r.Intn(8) {
			case 0:
				g.Join("", []string{"a"}, topics(), now)
			case 1, 2:
				g.Join(id, [][]string{{"a"}, {"a", "b"}}[r.Intn(2)], topics(), now)
			case 3, 4:
				g.Sync(id, g.Gen(), now)
			case 5:
				g.Beat(id, g.Gen(), now)
			case 6:
				g.Tick(topics(), now)
			default:
				if r.Intn(4) == 0 {
					g.Leave(id, topics(), now)
				}
			}
			if g.Gen() < gen {
				t.Fatalf("seed %d: generation %d behind %d", seed, g.Gen(), gen)
			}
			gen = g.Gen()
			went := map[api.Slot]int{}
			var all []api.Slot
			for _, x := range g.Shares() {
				if !slices.Contains(g.Members(), x.Member) {
					t.Fatalf("seed %d: %q is no member", seed, x.Member)
				}
				for _, s := range x.Slots {
					went[s]++
					all = append(all, s)
				}
			}
			if len(went) != len(all) {
				t.Fatalf("seed %d: a slot is of two", seed)
			}
			state := g.State()
			if (state == group.Empty) != (len(g.Members()) == 0) || (len(g.Shares()) > 0) != (state == group.Completing || state == group.Stable) {
				t.Fatalf("seed %d: state %d of %v, %v", seed, state, g.Members(), g.Shares())
			}
			if told := fmt.Sprint(g.Shares()); state >= group.Completing {
				if was, ok := shares[gen]; ok && was != told {
					t.Fatalf("seed %d: generation %d has %s, and %s", seed, gen, was, told)
				}
				shares[gen] = told
			}
		}
	}
}
