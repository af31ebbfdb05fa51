package retain_test

import (
	"math"
	"slices"
	"testing"

	"cordwain/api"
	"cordwain/retain"
)

// of is segments with so many bytes each.
func of(bytes ...int) (l []retain.Info) {
	for i, n := range bytes {
		l = append(l, retain.Info{Base: 10 * i, Next: 10*i + 10, Bytes: n})
	}
	return l
}

// aged is segments whose greatest times are these.
func aged(most ...int) (l []retain.Info) {
	for i, time := range most {
		l = append(l, retain.Info{Base: 10 * i, Next: 10*i + 10, Bytes: 1, Most: time})
	}
	return l
}

func TestSum(t *testing.T) { // P11.1
	for _, c := range []struct {
		l    []retain.Info
		want int
	}{
		{nil, 0}, {of(5), 5}, {of(5, 0, 7), 12}, {of(-5, 7, math.MinInt), 7}, {of(1 << 50), 1 << 50}, {of(1<<50 + 1), 1 << 50}, {of(1<<50 - 1), 1<<50 - 1},
		{of(1<<50-1, 1), 1 << 50}, {of(1<<50, 1<<50), 1 << 50}, {of(math.MaxInt, math.MaxInt, -9), 1 << 50}, {of(slices.Repeat([]int{1 << 50}, 10000)...), 1 << 50},
	} {
		if got := retain.Sum(c.l); got != c.want {
			t.Errorf("Sum of %d is %d, not %d", len(c.l), got, c.want)
		}
	}
}

func TestFrontBySize(t *testing.T) { // P11.1
	for _, c := range []struct {
		keep int
		l    []retain.Info
		want int
	}{
		{10, of(6, 6, 6), 2}, {11, of(6, 6, 6), 2}, {12, of(6, 6, 6), 1}, {17, of(6, 6, 6), 1}, {18, of(6, 6, 6), 0}, {19, of(6, 6, 6), 0},
		{1, of(6, 6, 6), 2}, {0, of(6, 6, 6), 0}, {-1, of(6, 6, 6), 0}, {1, of(6), 0}, {1, nil, 0}, {5, of(0, 0, 6), 2}, {5, of(-1, 3, 3), 2}, {6, of(-1, 3, 3), 0},
		{5, of(1, 9, 1), 2}, {5, of(9, 1, 1), 1}, {1<<50 - 1, of(math.MaxInt, math.MaxInt, 1), 2}, {1 << 50, of(math.MaxInt, math.MaxInt, 1), 0}, {math.MaxInt, of(math.MaxInt, math.MaxInt), 0},
	} {
		if got := retain.Front(c.l, api.Config{KeepBytes: c.keep}, 1<<50); got != c.want {
			t.Errorf("Front of %v, %d kept, is %d, not %d", c.l, c.keep, got, c.want)
		}
	}
}

func TestFrontByAge(t *testing.T) { // P11.1
	for _, c := range []struct {
		age, now int
		l        []retain.Info
		want     int
	}{
		{10, 100, aged(89, 90, 0), 1}, {10, 101, aged(89, 90, 0), 2}, {10, 99, aged(89, 90, 0), 0}, {10, 100, aged(90, 80, 0), 0}, {10, 1000, aged(1, 2, 3), 2}, {0, 1000, aged(1, 2, 3), 0}, {-5, 1000, aged(1, 2, 3), 0},
		{10, 1000, aged(1), 0}, {10, 1000, nil, 0}, {1, math.MaxInt, aged(math.MinInt, math.MaxInt-1, 0), 1}, {1, math.MinInt, aged(math.MaxInt, 0), 0}, {math.MaxInt, math.MaxInt, aged(0, -1, 0), 0}, {math.MaxInt, math.MaxInt, aged(-1, 0, 0), 1},
	} {
		if got := retain.Front(c.l, api.Config{KeepAge: c.age}, c.now); got != c.want {
			t.Errorf("Front of %v, age %d, at %d, is %d, not %d", c.l, c.age, c.now, got, c.want)
		}
	}
}

func TestFrontBySizeOrAge(t *testing.T) { // P11.1, P11.3
	l := []retain.Info{{Bytes: 5, Most: 90}, {Bytes: 5, Most: 10}, {Bytes: 5, Most: 99}, {Bytes: 5}}
	for _, c := range []struct {
		keep, age, want int
	}{
		{16, 50, 2}, {16, 5, 2}, {16, 0, 1}, {0, 50, 0}, {0, 5, 2}, {0, 1, 2}, {1, 1, 3}, {0, 0, 0}, {14, 1, 2}, {9, 1, 3},
	} {
		if got := retain.Front(l, api.Config{KeepBytes: c.keep, KeepAge: c.age, SegBytes: 1, Compact: true}, 100); got != c.want {
			t.Errorf("Front, %d kept, age %d, is %d, not %d", c.keep, c.age, got, c.want)
		}
	}
	if !slices.Equal(l, []retain.Info{{Bytes: 5, Most: 90}, {Bytes: 5, Most: 10}, {Bytes: 5, Most: 99}, {Bytes: 5}}) {
		t.Error("what was handed in is changed")
	}
}

func TestTrim(t *testing.T) { // P11.1, P11.3
	l := []retain.Info{{Next: 10}, {Next: 20}, {Next: 20}, {Next: 30}}
	for start, want := range map[int]int{math.MinInt: 0, 0: 0, 9: 0, 10: 1, 19: 1, 20: 3, 30: 3, math.MaxInt: 3} {
		if got := retain.Trim(l, start); got != want {
			t.Errorf("Trim(%d) is %d, not %d", start, got, want)
		}
	}
	if retain.Trim(nil, 100) != 0 || retain.Trim(l[:1], 100) != 0 || retain.Trim([]retain.Info{{Next: 10}, {Next: 50}, {Next: 10}, {}}, 10) != 1 {
		t.Error("Trim of none, of one, or beyond one that stays")
	}
}

func TestRolls(t *testing.T) { // P11.2
	for _, c := range []struct {
		x    retain.Info
		c    api.Config
		now  int
		more int
		want bool
	}{
		{retain.Info{Bytes: 60}, api.Config{SegBytes: 100}, 0, 40, false},
		{retain.Info{Bytes: 60}, api.Config{SegBytes: 100}, 0, 41, true},
		{retain.Info{Bytes: 0}, api.Config{SegBytes: 100}, 0, 400, false},
		{retain.Info{Bytes: -1}, api.Config{SegBytes: 100}, 0, 400, false},
		{retain.Info{Bytes: 1}, api.Config{SegBytes: 100}, 0, 400, true},
		{retain.Info{Bytes: 1, First: 90}, api.Config{SegBytes: 100, SegAge: 10}, 100, 1, false},
		{retain.Info{Bytes: 1, First: 90}, api.Config{SegBytes: 100, SegAge: 10}, 101, 1, true},
		{retain.Info{Bytes: 0, First: 90}, api.Config{SegBytes: 100, SegAge: 10}, 101, 1, false},
		{retain.Info{Bytes: 1, First: 90}, api.Config{SegBytes: 100, SegAge: 1}, 92, 1, true},
		{retain.Info{Bytes: 1, First: 90}, api.Config{SegBytes: 100, SegAge: 1}, 91, 1, false},
		{retain.Info{Bytes: 1, First: 90, Most: 101}, api.Config{SegBytes: 100, SegAge: 10}, 101, 1, true},
		{retain.Info{Bytes: 1, First: 101, Most: 0}, api.Config{SegBytes: 100, SegAge: 10}, 101, 1, false},
		{retain.Info{Bytes: 1, First: 0}, api.Config{SegBytes: 100, SegAge: 0}, 1000, 1, false},
		{retain.Info{Bytes: 1, First: 0}, api.Config{SegBytes: 100, SegAge: -1}, 1000, 1, false},
		{retain.Info{Bytes: math.MaxInt}, api.Config{SegBytes: math.MaxInt}, 0, 0, false},
		{retain.Info{Bytes: math.MaxInt}, api.Config{SegBytes: math.MaxInt}, 0, 1, true},
		{retain.Info{Bytes: math.MaxInt - 1}, api.Config{SegBytes: math.MaxInt}, 0, 1, false},
		{retain.Info{Bytes: 5}, api.Config{SegBytes: math.MaxInt}, 0, math.MaxInt, true},
		{retain.Info{Bytes: 200}, api.Config{SegBytes: 100}, 0, -100, false},
		{retain.Info{Bytes: 1}, api.Config{SegBytes: 1}, 0, math.MinInt, false},
		{retain.Info{Bytes: 1, First: math.MinInt}, api.Config{SegBytes: 100, SegAge: 1 << 50}, math.MaxInt, 1, true},
		{retain.Info{Bytes: 1, First: math.MaxInt}, api.Config{SegBytes: 100, SegAge: 1}, math.MinInt, 1, false},
	} {
		if got := retain.Rolls(c.x, c.c, c.now, c.more); got != c.want {
			t.Errorf("Rolls(%v, %v, %d, %d) is %v", c.x, c.c, c.now, c.more, got)
		}
	}
}
