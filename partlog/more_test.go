package partlog_test

import (
	"math"
	"slices"
	"testing"

	"cordwain/api"
	"cordwain/partlog"
)

func TestDueIsWhenRetainOrCleanHaveSomethingToDo(t *testing.T) { // for the packages below
	for seed := range 40 {
		c := configs(seed)
		l, m := opened(t, fresh(t, 1<<30), c), newModel(c)
		for _, s := range steps(int64(seed)+77, 40) {
			s.onLog(l)
			s.onModel(m)
			for now := s.n - 40; now < s.n+60; now += 7 {
				if l.Due() <= now {
					continue
				}
				other := m.copy()
				if other.retain(now) != 0 || other.clean(now) != 0 || other.dirty != m.dirty {
					t.Fatalf("seed %d: Due is %d, but at %d there is something to do", seed, l.Due(), now)
				}
			}
		}
		for range 60 {
			l.Retain(1000)
			l.Clean(1000)
		}
		if l.Due() < 1000 {
			t.Errorf("seed %d: Due is %d, though all is done", seed, l.Due())
		}
	}
}

func TestEpochAndGreatest(t *testing.T) { // for the packages below
	l := opened(t, fresh(t, 1<<20), config())
	if _, ok := l.Epoch(7); ok || l.Greatest() != 0 {
		t.Error("a new log knows a producer")
	}
	done(t, l, of(7, 3, 0, 1), 0)
	done(t, l, of(5, 4, 0, 1), 0)
	if epoch, ok := l.Epoch(5); epoch != 4 || !ok || l.Greatest() != 7 {
		t.Errorf("Epoch is %d, Greatest %d", epoch, l.Greatest())
	}
	var none *partlog.Log
	if epoch, ok := none.Epoch(7); epoch != 0 || ok || none.Greatest() != 0 || none.Due() != math.MinInt {
		t.Error("no log knows something")
	}
}

func TestRemoveTakesAllFilesOfOneLog(t *testing.T) { // for the packages below
	d := fresh(t, 1<<20)
	for _, dir := range []string{"a-0", "a-1"} {
		l, e := partlog.Open(d, dir, config())
		if e != api.OK {
			t.Fatal(e)
		}
		for i := range 9 {
			done(t, l, of(1, 0, 2*i, 2), 0)
		}
		if e := l.Trim(11); e != api.OK {
			t.Fatal(e)
		}
	}
	others := []string{"a-0/other", "a-0", "topics", "a-0/start-1-2", "x/00000000000000000000.log"}
	for _, name := range others {
		if e := d.Append(name, nil); e != api.OK {
			t.Fatal(e)
		}
		if dir, ok := partlog.Owner(name); dir != "" || ok {
			t.Errorf("%q is of %q", name, dir)
		}
	}
	before := d.Names()
	if e := partlog.Remove(d, "a-0"); e != api.OK {
		t.Fatal(e)
	}
	var want []string
	for _, name := range before {
		if dir, ok := partlog.Owner(name); !ok || dir != "a-0" {
			want = append(want, name)
		}
	}
	if got := d.Crash().Names(); !slices.Equal(got, want) || len(want) == len(before) {
		t.Errorf("left are %q, not %q", got, want)
	}
	d.Cut(0)
	if e := partlog.Remove(d, "a-1"); e != api.ErrOff {
		t.Errorf("Remove without power is %d", e)
	}
}
