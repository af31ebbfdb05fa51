package group_test

import (
	"fmt"
	"math"
	"math/rand"
	"testing"

	"cordwain/group"
)

func TestDueIsWhenTickHasSomethingToDo(t *testing.T) { // for the packages below
	show := func(g *group.Group) string {
		return fmt.Sprint(g.State(), g.Gen(), g.Members(), g.Shares())
	}
	for seed := range 200 {
		r := rand.New(rand.NewSource(int64(seed)))
		g, _ := group.New(1+r.Intn(12), 1+r.Intn(12), 0, false)
		now := 0
		for range 30 {
			id := fmt.Sprint("m", 1+r.Intn(4))
			switch r.Intn(4) {
			case 0:
				g.Join("", []string{"a"}, topics(), now)
			case 1:
				g.Join(id, []string{"a"}, topics(), now)
			case 2:
				g.Sync(id, g.Gen(), now)
			default:
				g.Leave(id, topics(), now)
			}
			for range r.Intn(10) {
				due, before := g.Due(), show(g)
				now++
				g.Tick(topics(), now)
				if now < due && show(g) != before || now >= due && show(g) == before {
					t.Fatalf("seed %d: Due is %d, and at %d %s became %s", seed, due, now, before, show(g))
				}
			}
		}
	}
	var none *group.Group
	if none.Due() != math.MaxInt {
		t.Error("something is due of a nil Group")
	}
}
