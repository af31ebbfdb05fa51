package assign_test

import (
	"fmt"
	"math"
	"math/rand"
	"slices"
	"strings"
	"testing"

	"cordwain/api"
	"cordwain/assign"
)

// members reads them: an ID and its topics, behind a colon.
func members(l ...string) (out []assign.Member) {
	for _, s := range l {
		id, topics, _ := strings.Cut(s, ":")
		out = append(out, assign.Member{ID: id, Topics: strings.Fields(topics)})
	}
	return out
}

// topics reads them: a name and how many parts.
func topics(l ...string) (out []assign.Topic) {
	for _, s := range l {
		var x assign.Topic
		name, parts, _ := strings.Cut(s, " ")
		fmt.Sscan(parts, &x.Parts)
		x.Name = name
		out = append(out, x)
	}
	return out
}

// told is shares as a text.
func told(shares []api.Share) string {
	var l []string
	for _, x := range shares {
		s := x.Member + ":"
		for _, slot := range x.Slots {
			s += fmt.Sprintf(" %s%d", slot.Topic, slot.Part)
		}
		l = append(l, s)
	}
	return strings.Join(l, ", ")
}

func gives(t *testing.T, what string, of func([]assign.Member, []assign.Topic) ([]api.Share, api.Errno), l []assign.Member, all []assign.Topic, want string) {
	t.Helper()
	shares, e := of(l, all)
	if told(shares) != want || e != api.OK {
		t.Errorf("%s: %q, %d, not %q", what, told(shares), e, want)
	}
}

func TestRange(t *testing.T) { // P16.1
	for _, c := range []struct {
		what    string
		members []assign.Member
		topics  []assign.Topic
		want    string
	}{
		{"nobody", nil, topics("a 3"), ""},
		{"nothing", members("x:a"), nil, "x:"},
		{"two and one", members("x:a", "y:a"), topics("a 3"), "x: a0 a1, y: a2"},
		{"by IDs", members("z:a", "m10:a", "m2:a"), topics("a 4"), "m10: a0 a1, m2: a2, z: a3"},
		{"more than parts", members("x:a", "y:a", "z:a"), topics("a 2"), "x: a0, y: a1, z:"},
		{"by topic, then part", members("x:a b", "y:b a"), topics("b 3", "a 3"), "x: a0 a1 b0 b1, y: a2 b2"},
		{"each its own", members("x:a", "y:b"), topics("a 2", "b 2"), "x: a0 a1, y: b0 b1"},
		{"some", members("x:a", "y:a b", "z:b"), topics("a 3", "b 5", "c 9"), "x: a0 a1, y: a2 b0 b1 b2, z: b3 b4"},
		{"topics that are none", members("x:none a"), topics("a 1"), "x: a0"},
		{"a topic twice", members("x:a a a", "y:a"), topics("a 4"), "x: a0 a1, y: a2 a3"},
		{"no parts", members("x:a", "y:a"), topics("a 0"), "x:, y:"},
		{"a rest of two", members("x:a", "y:a", "z:a"), topics("a 8"), "x: a0 a1 a2, y: a3 a4 a5, z: a6 a7"},
		{"empty names", members(":"), []assign.Topic{{Name: "", Parts: 2}}, ":"},
	} {
		gives(t, c.what, assign.Range, c.members, c.topics, c.want)
	}
}

func TestRound(t *testing.T) { // P16.1
	for _, c := range []struct {
		what    string
		members []assign.Member
		topics  []assign.Topic
		want    string
	}{
		{"nobody", nil, topics("a 3"), ""},
		{"nothing", members("x:a"), nil, "x:"},
		{"in turn", members("x:a", "y:a"), topics("a 3"), "x: a0 a2, y: a1"},
		{"by IDs", members("z:a", "m10:a", "m2:a"), topics("a 4"), "m10: a0 a3, m2: a1, z: a2"},
		{"on from topic to topic", members("x:a b", "y:b a"), topics("b 3", "a 3"), "x: a0 a2 b1, y: a1 b0 b2"},
		{"passing by who has it not", members("x:a", "y:a b", "z:b"), topics("a 3", "b 5"), "x: a0 a2, y: a1 b0 b2 b4, z: b1 b3"},
		{"nobody has it", members("x:a", "y:a", "z:a"), topics("a 1", "b 5", "c 1"), "x: a0, y:, z:"},
		{"behind the last that went to anybody", members("x:a c", "y:a c", "z:c"), topics("a 1", "b 5", "c 3"), "x: a0 c2, y: c0, z: c1"},
		{"a topic twice", members("x:a a", "y:a"), topics("a 2"), "x: a0, y: a1"},
		{"one alone", members("x:b", "y:a"), topics("a 3", "b 1"), "x: b0, y: a0 a1 a2"},
	} {
		gives(t, c.what, assign.Round, c.members, c.topics, c.want)
	}
}

func TestBothRefuse(t *testing.T) { // P16.1
	for what, c := range map[string]struct {
		members []assign.Member
		topics  []assign.Topic
		want    api.Errno
	}{
		"an ID twice":           {members("x:a", "y:a", "x:b"), topics("a 1"), api.ErrArg},
		"a Name twice":          {members("x:a"), topics("a 1", "b 1", "a 1"), api.ErrArg},
		"a Name twice, no one":  {nil, topics("a 1", "a 2"), api.ErrArg},
		"parts below 0":         {members("x:a"), []assign.Topic{{Name: "a", Parts: -1}}, api.ErrArg},
		"parts far below 0":     {members("x:a"), []assign.Topic{{Name: "a", Parts: math.MinInt}}, api.ErrArg},
		"parts above":           {members("x:a"), topics("a 1001"), api.ErrArg},
		"parts above of no one": {members("x:a"), topics("a 1", "b 1001"), api.ErrArg},
		"parts far above":       {nil, []assign.Topic{{Name: "a", Parts: math.MaxInt}}, api.ErrArg},
		"parts at most":         {members("x:a"), topics("a 1000", "b 0"), api.OK},
	} {
		for i, of := range []func([]assign.Member, []assign.Topic) ([]api.Share, api.Errno){assign.Range, assign.Round} {
			shares, e := of(c.members, c.topics)
			if e != c.want || e != api.OK && shares != nil || e == api.OK && len(shares[0].Slots) != 1000 {
				t.Errorf("%s, %d: %d", what, i, e)
			}
		}
	}
}

func TestOfAndOwner(t *testing.T) { // P16.2
	shares := []api.Share{{Member: "x", Slots: []api.Slot{{Topic: "a", Part: 0}, {Topic: "b", Part: 1}}}, {Member: "y"}, {Member: "x", Slots: []api.Slot{{Topic: "c", Part: 3}}}, {Member: "z", Slots: []api.Slot{{Topic: "a", Part: 0}, {Topic: "", Part: 0}}}}
	for member, want := range map[string]string{"x": "x: a0 b1", "y": "y:", "z": "z: a0 0", "none": "none:", "": ":"} {
		if got := told([]api.Share{{Member: member, Slots: assign.Of(shares, member)}}); got != want {
			t.Errorf("Of(%q) is %q", member, got)
		}
	}
	for slot, want := range map[api.Slot]string{{Topic: "a", Part: 0}: "x", {Topic: "b", Part: 1}: "x", {Topic: "c", Part: 3}: "x", {Topic: "", Part: 0}: "z"} {
		if got, ok := assign.Owner(shares, slot); got != want || !ok {
			t.Errorf("Owner(%v) is %q, %v", slot, got, ok)
		}
	}
	for _, slot := range []api.Slot{{Topic: "a", Part: 1}, {Topic: "b", Part: 0}, {Topic: "d", Part: 0}, {Topic: "a", Part: -1}} {
		if got, ok := assign.Owner(shares, slot); got != "" || ok {
			t.Errorf("Owner(%v) is %q, %v", slot, got, ok)
		}
	}
	if _, ok := assign.Owner(nil, api.Slot{}); ok || len(assign.Of(nil, "x")) != 0 {
		t.Error("somebody has something of nothing")
	}
}

func TestSlots(t *testing.T) { // P16.2
	all := topics("b 2", "a 3", "c 0", "bb 1")
	all = append(all, assign.Topic{Name: "d", Parts: -4}, assign.Topic{Name: "e", Parts: math.MaxInt})
	it := assign.Slots(all)
	all[0] = assign.Topic{}
	for _, most := range []int{1, 4, 9, 9} {
		var l []string
		for slot := range it {
			if l = append(l, fmt.Sprint(slot.Topic, slot.Part)); len(l) == most {
				break
			}
		}
		if want := strings.Fields("a0 a1 a2 b0 b1 bb0 e0 e1 e2")[:most]; !slices.Equal(l, want) {
			t.Errorf("Slots, left at %d, are %v", most, l)
		}
	}
	for range assign.Slots(nil) {
		t.Error("Slots of nothing")
	}
}

func TestEachSlotGoesToOne(t *testing.T) { // P16.3
	r := rand.New(rand.NewSource(1))
	for round := range 200 {
		var l []assign.Member
		for i := range r.Intn(6) {
			m := assign.Member{ID: fmt.Sprint("m", (i*7+round)%11)}
			for range r.Intn(4) {
				m.Topics = append(m.Topics, string(rune('a'+r.Intn(4))))
			}
			l = append(l, m)
		}
		var all []assign.Topic
		for i := range 4 {
			all = append(all, assign.Topic{Name: string(rune('d' - i)), Parts: r.Intn(7)})
		}
		before := fmt.Sprint(l, all)
		for i, of := range []func([]assign.Member, []assign.Topic) ([]api.Share, api.Errno){assign.Range, assign.Round} {
			shares, e := of(l, all)
			if e != api.OK || len(shares) != len(l) || !slices.IsSortedFunc(shares, func(a, b api.Share) int { return strings.Compare(a.Member, b.Member) }) {
				t.Fatalf("%d: %d, %q", i, e, told(shares))
			}
			went := map[api.Slot]string{}
			for _, x := range shares {
				for _, slot := range x.Slots {
					if _, twice := went[slot]; twice {
						t.Fatalf("%d: %v goes twice: %q", i, slot, told(shares))
					}
					went[slot] = x.Member
				}
			}
			for slot := range assign.Slots(all) {
				wanted := slices.ContainsFunc(l, func(m assign.Member) bool { return slices.Contains(m.Topics, slot.Topic) })
				owner, ok := assign.Owner(shares, slot)
				if ok != wanted || owner != went[slot] {
					t.Fatalf("%d: %v goes to %q, %v", i, slot, owner, ok)
				}
				k := slices.IndexFunc(l, func(m assign.Member) bool { return m.ID == owner })
				if ok && !slices.Contains(l[k].Topics, slot.Topic) {
					t.Fatalf("%d: %v goes to %q, who has it not", i, slot, owner)
				}
				delete(went, slot)
			}
			if len(went) > 0 {
				t.Fatalf("%d: %v are none", i, went)
			}
		}
		if fmt.Sprint(l, all) != before {
			t.Fatal("what was handed in is changed")
		}
	}
}

func TestSharesAreNewMemory(t *testing.T) { // P16.3
	l, all := members("x:a", "y:a"), topics("a 4")
	for i, of := range []func([]assign.Member, []assign.Topic) ([]api.Share, api.Errno){assign.Range, assign.Round} {
		shares, _ := of(l, all)
		_ = append(shares[0].Slots, api.Slot{Topic: "zzz"})
		shares[0].Slots[0] = api.Slot{Topic: "zzz"}
		again, _ := of(l, all)
		if told(again) == told(shares) || strings.Contains(told(again[1:]), "zzz") || strings.Contains(told(shares[1:]), "zzz") {
			t.Errorf("%d: answers share memory", i)
		}
		slots := assign.Of(again, "x")
		slots[0] = api.Slot{Topic: "zzz"}
		if strings.Contains(told(again), "zzz") {
			t.Errorf("%d: Of shares memory", i)
		}
	}
}
