package topics_test

import (
	"fmt"
	"math"
	"slices"
	"strings"
	"testing"

	"cordwain/api"
	"cordwain/disk"
	"cordwain/topics"
)

func fresh(t *testing.T, room int) *disk.Disk {
	t.Helper()
	d, e := disk.New(room)
	if e != api.OK {
		t.Fatal(e)
	}
	return d
}

func opened(t *testing.T, d *disk.Disk) *topics.Table {
	t.Helper()
	table, e := topics.Open(d)
	if e != api.OK || table == nil {
		t.Fatalf("Open is %d", e)
	}
	return table
}

// told is all topics of a table, as a text; that all calls agree is asked by the way.
func told(t *testing.T, table *topics.Table) string {
	t.Helper()
	var l []string
	for name, parts := range table.All() {
		l = append(l, fmt.Sprint(name, " ", parts))
		if n, ok := table.Parts(name); n != parts || !ok {
			t.Errorf("Parts(%q) is %d, %v, not %d", name, n, ok, parts)
		}
	}
	for i, x := range table.List() {
		if i >= len(l) || l[i] != fmt.Sprint(x.Name, " ", x.Parts) {
			t.Errorf("List has %v at %d", x, i)
		}
	}
	if len(table.List()) != len(l) {
		t.Errorf("List has %d, not %d", len(table.List()), len(l))
	}
	return strings.Join(l, ", ")
}

func is(t *testing.T, what string, table *topics.Table, want string) {
	t.Helper()
	if got := told(t, table); got != want {
		t.Errorf("%s: %q, not %q", what, got, want)
	}
}

func TestOpenOfNothing(t *testing.T) { // P21.1
	if table, e := topics.Open(nil); table != nil || e != api.ErrArg {
		t.Errorf("Open of no disk is %d", e)
	}
	table := opened(t, fresh(t, 0))
	is(t, "new", table, "")
	if n, ok := table.Parts("a"); n != 0 || ok || table.Dead() {
		t.Errorf("Parts of none is %d, %v", n, ok)
	}
}

func TestCreateAndDelete(t *testing.T) { // P21.1, P21.2, P21.4
	d := fresh(t, 1000)
	table := opened(t, d)
	for _, c := range []struct {
		name  string
		parts int
		want  api.Errno
		all   string
	}{
		{"b", 2, api.OK, "b 2"}, {"a", 20, api.OK, "a 20, b 2"}, {"b", 2, api.ErrThere, "a 20, b 2"}, {"b", 3, api.ErrThere, "a 20, b 2"},
		{"", 1, api.ErrArg, "a 20, b 2"}, {"A", 1, api.ErrArg, "a 20, b 2"}, {strings.Repeat("q", 21), 1, api.ErrArg, "a 20, b 2"}, {"c", 0, api.ErrArg, "a 20, b 2"}, {"c", -1, api.ErrArg, "a 20, b 2"}, {"c", 21, api.ErrArg, "a 20, b 2"}, {"b", 21, api.ErrArg, "a 20, b 2"}, {"c", math.MaxInt, api.ErrArg, "a 20, b 2"},
		{"ab", 1, api.OK, "a 20, ab 1, b 2"}, {"none", -7, api.ErrNone, "a 20, ab 1, b 2"}, {"a", -7, api.OK, "ab 1, b 2"}, {"a", -7, api.ErrNone, "ab 1, b 2"}, {"a", 1, api.OK, "a 1, ab 1, b 2"}, {"", -7, api.ErrNone, "a 1, ab 1, b 2"},
	} {
		var e api.Errno
		if c.parts == -7 {
			e = table.Delete(c.name)
		} else {
			e = table.Create(c.name, c.parts)
		}
		if e != c.want {
			t.Errorf("%q, %d is %d, not %d", c.name, c.parts, e, c.want)
		}
		is(t, c.name, table, c.all)
		is(t, c.name+", opened again", opened(t, d), c.all)
		is(t, c.name+", behind a crash", opened(t, d.Crash()), c.all)
	}
	for _, name := range []string{"a", "ab", "b"} {
		if e := table.Delete(name); e != api.OK {
			t.Fatal(e)
		}
	}
	is(t, "none left", opened(t, d.Crash()), "")
}

func TestTwentyAtMost(t *testing.T) { // P21.1
	d := fresh(t, 10000)
	table := opened(t, d)
	var l []string
	for i := range 20 {
		name := fmt.Sprint(strings.Repeat("q", 18), string(rune('a'+i)), "x")
		l = append(l, name+" 20")
		if e := table.Create(name, 20); e != api.OK {
			t.Fatal(e)
		}
	}
	is(t, "full", opened(t, d.Crash()), strings.Join(l, ", "))
	if table.Create("a", 1) != api.ErrBad || table.Create("", 1) != api.ErrArg || table.Create(l[3][:20], 1) != api.ErrThere {
		t.Error("one more is not refused as it should be")
	}
	if table.Delete(l[0][:20]) != api.OK || table.Create("a", 1) != api.OK {
		t.Error("there is no place again")
	}
}

func TestWithoutRoom(t *testing.T) { // P21.1
	for room := range 60 {
		d := fresh(t, room)
		table := opened(t, d)
		want := ""
		for _, name := range []string{"a", "b", "c"} {
			before := want
			e := table.Create(name, 3)
			if e == api.OK {
				want = strings.TrimPrefix(want+", "+name+" 3", ", ")
			} else if e != api.ErrFull {
				t.Fatalf("room %d: Create is %d", room, e)
			}
			is(t, "without room", table, want)
			is(t, "opened without room", opened(t, d.Crash()), want)
			if e == api.ErrFull && want != before || table.Dead() {
				t.Errorf("room %d: dead, or changed", room)
			}
		}
		if e := table.Delete("a"); e == api.OK {
			want = strings.TrimPrefix(strings.TrimPrefix(want, "a 3"), ", ")
		} else if e != api.ErrFull && want != "" {
			t.Errorf("room %d: Delete is %d", room, e)
		}
		is(t, "deleted", opened(t, d.Crash()), want)
	}
}

func TestWithoutPower(t *testing.T) { // P21.1
	for _, delete := range []bool{false, true} {
		d := fresh(t, 1000)
		table := opened(t, d)
		if e := table.Create("a", 3); e != api.OK {
			t.Fatal(e)
		}
		d.Cut(0)
		if table.Dead() {
			t.Error("dead ahead of an act")
		}
		e := table.Create("b", 1)
		if delete {
			d = fresh(t, 1000)
			table = opened(t, d)
			table.Create("a", 3)
			d.Cut(0)
			e = table.Delete("a")
		}
		if e != api.ErrOff || !table.Dead() {
			t.Errorf("an act without power is %d", e)
		}
		is(t, "dead", table, "a 3")
		for i, e := range []api.Errno{table.Create("b", 1), table.Create("a", 1), table.Delete("a"), table.Delete("none")} {
			if e != api.ErrOff {
				t.Errorf("act %d of a dead table is %d", i, e)
			}
		}
		if table.Create("", 1) != api.ErrArg || table.Create("c", 0) != api.ErrArg {
			t.Error("a dead table does not ask its arguments first")
		}
	}
}

func TestBehindEachCrash(t *testing.T) { // P21.3, P21.4
	acts := []func(table *topics.Table) api.Errno{
		func(table *topics.Table) api.Errno { return table.Create("a", 3) },
		func(table *topics.Table) api.Errno { return table.Create("b", 1) },
		func(table *topics.Table) api.Errno { return table.Delete("a") },
		func(table *topics.Table) api.Errno { return table.Create("c", 20) },
		func(table *topics.Table) api.Errno { return table.Delete("b") },
		func(table *topics.Table) api.Errno { return table.Delete("c") },
		func(table *topics.Table) api.Errno { return table.Create("a", 1) },
	}
	states := []string{"", "a 3", "a 3, b 1", "b 1", "b 1, c 20", "c 20", "", "a 1"}
	for cut := 0; ; cut++ {
		d := fresh(t, 1000)
		table := opened(t, d)
		d.Cut(cut)
		done := 0
		for _, act := range acts {
			if act(table) != api.OK {
				break
			}
			done++
			is(t, "told OK", table, states[done])
		}
		if done == len(acts) {
			break
		}
		is(t, "cut off", table, states[done])
		for first := range 6 {
			for second := range 12 {
				crashed := d.Crash(first, second, second)
				got := told(t, opened(t, crashed))
				if got != states[done] && got != states[done+1] {
					t.Fatalf("cut %d, picks %d, %d: %q, not %q, nor %q", cut, first, second, got, states[done], states[done+1])
				}
				is(t, "opened twice", opened(t, crashed), got)
				is(t, "opened twice, behind a crash", opened(t, crashed.Crash(first)), got)
				again := opened(t, crashed)
				if e := again.Create("z", 7); e != api.OK {
					t.Fatalf("Create behind a crash is %d", e)
				}
				is(t, "gone on", opened(t, crashed.Crash()), strings.TrimPrefix(got+", z 7", ", "))
			}
		}
	}
}

func TestOpenRefusesOtherBytes(t *testing.T) { // rule 1 of DOC.md
	d := fresh(t, 1000)
	if e := opened(t, d).Create("a", 3); e != api.OK {
		t.Fatal(e)
	}
	name := d.Names()[0]
	whole := d.Size(name)
	if e := d.Append(name, []byte{1}); e != api.OK {
		t.Fatal(e)
	}
	for n := whole + 1; n >= 0; n-- {
		if e := d.Truncate(name, n); e != api.OK {
			t.Fatal(e)
		}
		table, e := topics.Open(d)
		if (e == api.OK) != (n == whole) || e != api.OK && (table != nil || e != api.ErrBad) {
			t.Errorf("Open of %d bytes is %d", n, e)
		}
	}
}

func TestAllMayBeLeft(t *testing.T) { // P21.2
	table := opened(t, fresh(t, 1000))
	it := table.All()
	for _, name := range []string{"b", "a", "c"} {
		if e := table.Create(name, 1); e != api.OK {
			t.Fatal(e)
		}
	}
	for range 2 {
		var l []string
		for name := range it {
			if l = append(l, name); name == "b" {
				break
			}
		}
		if !slices.Equal(l, []string{"a", "b"}) {
			t.Errorf("a walk that is left at b has %q", l)
		}
	}
	table.List()[0].Name = "z"
	is(t, "what was answered is turned", table, "a 1, b 1, c 1")
}

func TestNilAndZeroTable(t *testing.T) { // P21.2
	for _, table := range []*topics.Table{nil, new(topics.Table)} {
		n, ok := table.Parts("a")
		if table.Create("a", 1) != api.ErrOff || table.Delete("a") != api.ErrOff || n != 0 || ok || !table.Dead() {
			t.Error("no table has something")
		}
		is(t, "none", table, "")
	}
}
