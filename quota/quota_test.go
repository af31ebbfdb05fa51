package quota_test

import (
	"fmt"
	"math"
	"math/big"
	"math/rand"
	"slices"
	"strings"
	"testing"

	"cordwain/api"
	"cordwain/quota"
)

func fresh(t *testing.T, rate, burst, most int) *quota.Quota {
	t.Helper()
	q, e := quota.New(rate, burst, most)
	if e != api.OK || q == nil {
		t.Fatalf("New(%d, %d, %d) is %d", rate, burst, most, e)
	}
	return q
}

func known(q *quota.Quota) string { return strings.Join(slices.Collect(q.Clients()), " ") }

func uses(t *testing.T, q *quota.Quota, client string, n, now int, want api.Errno) {
	t.Helper()
	if e := q.Use(client, n, now); e != want {
		t.Errorf("Use(%q, %d) at %d is %d, not %d", client, n, now, e, want)
	}
}

func left(t *testing.T, q *quota.Quota, client string, now, want int) {
	t.Helper()
	if n := q.Left(client, now); n != want {
		t.Errorf("Left(%q) at %d is %d, not %d", client, now, n, want)
	}
}

func waits(t *testing.T, q *quota.Quota, client string, n, now, want int, ok bool) {
	t.Helper()
	if ticks, yes := q.Wait(client, n, now); ticks != want || yes != ok {
		t.Errorf("Wait(%q, %d) at %d is %d, %v, not %d, %v", client, n, now, ticks, yes, want, ok)
	}
}

func TestNew(t *testing.T) { // P19.1
	for _, c := range [][3]int{{-1, 1, 1}, {1<<30 + 1, 1, 1}, {0, 0, 1}, {0, 1<<40 + 1, 1}, {0, 1, 0}, {0, 1, 1001}, {math.MinInt, 1, 1}, {0, math.MinInt, 1}, {0, 1, math.MaxInt}} {
		if q, e := quota.New(c[0], c[1], c[2]); q != nil || e != api.ErrArg {
			t.Errorf("New(%v) is %d", c, e)
		}
	}
	for _, c := range [][3]int{{0, 1, 1}, {1 << 30, 1 << 40, 1000}} {
		q := fresh(t, c[0], c[1], c[2])
		left(t, q, "a", 0, c[1])
		if known(q) != "" {
			t.Errorf("a new one knows %q", known(q))
		}
	}
}

func TestUse(t *testing.T) { // P19.2
	q := fresh(t, 1, 5, 10)
	uses(t, q, "a", 5, 0, api.OK)
	uses(t, q, "a", 1, 0, api.ErrQuota)
	uses(t, q, "a", 0, 0, api.OK)
	uses(t, q, "a", -1, 0, api.ErrArg)
	uses(t, q, "a", math.MinInt, 0, api.ErrArg)
	left(t, q, "a", 0, 0)
	uses(t, q, "a", 1, 1, api.OK)
	left(t, q, "a", 1, 0)
	uses(t, q, "b", 6, 1, api.ErrQuota)
	uses(t, q, "b", math.MaxInt, 1, api.ErrQuota)
	uses(t, q, "b", 3, 1, api.OK)
	left(t, q, "b", 1, 2)
	uses(t, q, "b", 3, 1, api.ErrQuota)
	left(t, q, "b", 1, 2)
	left(t, q, "c", 1, 5)
	left(t, q, "a", 3, 2)
	left(t, q, "b", 3, 4)
	if known(q) != "a b" {
		t.Errorf("known are %q", known(q))
	}
}

func TestAClientThatHasAllIsKnownNoMore(t *testing.T) { // P19.1
	q := fresh(t, 2, 5, 10)
	uses(t, q, "a", 5, 0, api.OK)
	uses(t, q, "b", 4, 0, api.OK)
	uses(t, q, "c", 0, 0, api.OK)
	if known(q) != "a b" {
		t.Errorf("known are %q", known(q))
	}
	left(t, q, "a", 1, 2)
	left(t, q, "b", 1, 3)
	left(t, q, "b", 2, 5)
	if known(q) != "a" {
		t.Errorf("known are %q", known(q))
	}
	left(t, q, "a", 3, 5)
	if known(q) != "" {
		t.Errorf("known are %q", known(q))
	}
	left(t, q, "a", 100, 5)
}

func TestTheTableIsFull(t *testing.T) { // P19.2
	q := fresh(t, 1, 5, 2)
	uses(t, q, "a", 1, 0, api.OK)
	uses(t, q, "b", 2, 0, api.OK)
	uses(t, q, "c", 1, 0, api.ErrQuota)
	uses(t, q, "c", 0, 0, api.OK)
	uses(t, q, "a", 1, 0, api.OK)
	waits(t, q, "c", 5, 0, 0, true)
	if known(q) != "a b" {
		t.Errorf("known are %q", known(q))
	}
	uses(t, q, "c", 1, 1, api.ErrQuota)
	uses(t, q, "c", 1, 2, api.OK)
	if known(q) != "c" {
		t.Errorf("known are %q", known(q))
	}
}

func TestTimeNeverGoesBack(t *testing.T) { // P19.1
	q := fresh(t, 1, 100, 10)
	uses(t, q, "a", 100, 10, api.OK)
	left(t, q, "a", 5, 0)
	left(t, q, "a", -5, 0)
	left(t, q, "a", math.MinInt, 0)
	left(t, q, "a", 12, 2)
	left(t, q, "a", 11, 2)
	uses(t, q, "a", 99, 20, api.ErrQuota)
	left(t, q, "a", 0, 10)
	waits(t, q, "a", 31, 40, 1, true)
	left(t, q, "a", 0, 30)
	uses(t, q, "a", 0, 50, api.OK)
	left(t, q, "a", 0, 40)
	q = fresh(t, 1, 1<<40, 10)
	uses(t, q, "a", 1<<40, -7, api.OK)
	left(t, q, "a", 0, 0)
	left(t, q, "a", 1, 1)
	left(t, q, "a", 1<<50, 1<<40)
	uses(t, q, "a", 7, math.MaxInt, api.OK)
	left(t, q, "a", math.MaxInt, 1<<40-7)
	left(t, q, "a", 1<<50+1, 1<<40-7)
	q = fresh(t, 1, 10, 10)
	uses(t, q, "a", 10, 1<<50-1, api.OK)
	left(t, q, "a", 1<<50+5, 1)
}

func TestNoRate(t *testing.T) { // P19.1, P19.2
	q := fresh(t, 0, 5, 10)
	uses(t, q, "a", 3, 0, api.OK)
	left(t, q, "a", 1<<50, 2)
	waits(t, q, "a", 2, 1<<50, 0, true)
	waits(t, q, "a", 3, 1<<50, 0, false)
	waits(t, q, "b", 5, 1<<50, 0, true)
}

func TestGreatNumbers(t *testing.T) { // P19.1
	q := fresh(t, 1<<30, 1<<40, 10)
	uses(t, q, "a", 1<<40, 0, api.OK)
	waits(t, q, "a", 1<<40, 0, 1<<10, true)
	left(t, q, "a", 1<<10-1, 1<<40-1<<30)
	left(t, q, "a", 1<<10, 1<<40)
	uses(t, q, "a", 1<<40, 1<<10, api.OK)
	left(t, q, "a", 1<<50, 1<<40)
}

func TestWait(t *testing.T) { // P19.2
	q := fresh(t, 3, 10, 10)
	uses(t, q, "a", 9, 0, api.OK)
	for _, c := range []struct {
		n, want int
		ok      bool
	}{
		{-1, 0, false}, {math.MinInt, 0, false}, {0, 0, true}, {1, 0, true}, {2, 1, true}, {4, 1, true}, {5, 2, true}, {7, 2, true}, {8, 3, true}, {10, 3, true}, {11, 0, false}, {math.MaxInt, 0, false},
	} {
		waits(t, q, "a", c.n, 0, c.want, c.ok)
		if c.ok {
			q := fresh(t, 3, 10, 10)
			uses(t, q, "a", 9, 0, api.OK)
			if c.want > 0 {
				uses(t, q, "a", c.n, c.want-1, api.ErrQuota)
			}
			uses(t, q, "a", c.n, c.want, api.OK)
		}
	}
	left(t, q, "a", 0, 1)
}

func TestClients(t *testing.T) { // P19.2
	q := fresh(t, 1, 5, 10)
	it := q.Clients()
	for _, client := range []string{"b", "", "ab", "a", "\xff"} {
		uses(t, q, client, 1, 0, api.OK)
	}
	for range 2 {
		var l []string
		for client := range it {
			if l = append(l, client); len(l) == 3 {
				break
			}
		}
		if !slices.Equal(l, []string{"", "a", "ab"}) {
			t.Errorf("a walk that is left at the third has %q", l)
		}
	}
	if l := slices.Collect(it); !slices.Equal(l, []string{"", "a", "ab", "b", "\xff"}) {
		t.Errorf("Clients are %q", l)
	}
}

func TestNilQuota(t *testing.T) { // P19.2
	var q *quota.Quota
	uses(t, q, "a", math.MaxInt, 0, api.OK)
	uses(t, q, "a", -1, 0, api.ErrArg)
	left(t, q, "a", 0, 0)
	waits(t, q, "a", 0, 0, 0, false)
	waits(t, q, "a", -1, 0, 0, false)
	if known(q) != "" {
		t.Error("a nil Quota knows one")
	}
	q = new(quota.Quota)
	uses(t, q, "a", 1, 5, api.ErrQuota)
	left(t, q, "a", 9, 0)
}

func TestNobodyUsesMoreThanBurstAndRate(t *testing.T) { // P19.3
	for seed := range 100 {
		r := rand.New(rand.NewSource(int64(seed)))
		rate, burst := r.Intn(4), 1+r.Intn(20)
		q := fresh(t, rate, burst, 3)
		type use struct{ now, n int }
		used := map[string][]use{}
		now := 0
		for range 200 {
			now += r.Intn(3)
			client := fmt.Sprint("c", r.Intn(4))
			n := r.Intn(burst + 2)
			if ticks, ok := q.Wait(client, n, now); ok && ticks > 0 && q.Use(client, n, now) == api.OK {
				t.Fatalf("seed %d: Use is OK ahead of its time", seed)
			}
			if q.Use(client, n, now) == api.OK {
				used[client] = append(used[client], use{now, n})
			}
		}
		for client, l := range used {
			for i := range l {
				sum := new(big.Int)
				for _, x := range l[i:] {
					sum.Add(sum, big.NewInt(int64(x.n)))
					if most := int64(burst + rate*(x.now-l[i].now)); sum.Cmp(big.NewInt(most)) > 0 {
						t.Fatalf("seed %d: %s used %v from %d to %d", seed, client, sum, l[i].now, x.now)
					}
				}
			}
		}
	}
}
