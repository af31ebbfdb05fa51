package commits_test

import (
	"testing"

	"cordwain/api"
	"cordwain/commits"
)

func TestDropAndGone(t *testing.T) { // for the packages below
	table, other := commits.New(), commits.New()
	for _, e := range []commits.Entry{entry("g", "t", 0, 5), entry("g", "u", 0, 6), entry("h", "t", 1, 7)} {
		if table.Put(e) != api.OK || other.Put(e) != api.OK {
			t.Fatal("Put")
		}
	}
	if l := table.Drop("x"); len(l) != 0 {
		t.Errorf("Drop of none is %v", l)
	}
	l := table.Drop("t")
	if len(l) != 2 || l[0] != entry("g", "t", 0, 5) || l[1] != entry("h", "t", 1, 7) || told(table) != "g/u/0=6" {
		t.Errorf("Drop is %v, and leaves %q", l, told(table))
	}
	for _, e := range l {
		r, err := commits.Gone(e, 3)
		if err != api.OK || r.Time != 3 || other.Apply(r) != api.OK {
			t.Errorf("Gone is %v, %d", r, err)
		}
	}
	if !commits.Same(table, other) {
		t.Errorf("%q, not %q", told(other), told(table))
	}
	if _, err := commits.Gone(entry("", "t", 0, 0), 3); err != api.ErrArg {
		t.Errorf("Gone of none is %d", err)
	}
	var none *commits.Table
	if none.Drop("t") != nil {
		t.Error("a nil Table has entries")
	}
}
