package disk_test

import (
	"bytes"
	"maps"
	"math"
	"slices"
	"strings"
	"testing"

	"cordwain/api"
	"cordwain/disk"
)

func fresh(t *testing.T, room int) *disk.Disk {
	t.Helper()
	d, e := disk.New(room)
	if e != api.OK || d == nil {
		t.Fatalf("New(%d) is %d", room, e)
	}
	return d
}

func must(t *testing.T, l ...api.Errno) {
	t.Helper()
	for i, e := range l {
		if e != api.OK {
			t.Fatalf("act %d of these is %d", i, e)
		}
	}
}

// shows compares all that a disk shows with the files that there should be.
func shows(t *testing.T, what string, d *disk.Disk, want map[string]string) {
	t.Helper()
	names := slices.Sorted(maps.Keys(want))
	if got := d.Names(); !slices.Equal(got, names) {
		t.Errorf("%s: names are %q, not %q", what, got, names)
		return
	}
	used := 0
	for _, name := range names {
		used += len(want[name])
		b, e := d.Read(name)
		if string(b) != want[name] || e != api.OK {
			t.Errorf("%s: %q is %q (%d), not %q", what, name, b, e, want[name])
		}
		if d.Size(name) != len(want[name]) {
			t.Errorf("%s: %q has size %d", what, name, d.Size(name))
		}
	}
	if d.Used() != used {
		t.Errorf("%s: Used is %d, not %d", what, d.Used(), used)
	}
	i := 0
	for name, size := range d.All() {
		if name != names[i] || size != len(want[name]) {
			t.Errorf("%s: All has %q, %d at %d", what, name, size, i)
		}
		i++
	}
	if i != len(names) {
		t.Errorf("%s: All has %d files", what, i)
	}
}

func TestNewHasRoomAndNoFiles(t *testing.T) { // P4.1
	for _, room := range []int{-1, math.MinInt, 1<<40 + 1, math.MaxInt} {
		if d, e := disk.New(room); d != nil || e != api.ErrArg {
			t.Errorf("New(%d) is %v, %d", room, d, e)
		}
	}
	for _, room := range []int{0, 1, 1 << 40} {
		shows(t, "new", fresh(t, room), nil)
	}
}

func TestAppendStandsBehind(t *testing.T) { // P4.1
	d := fresh(t, 10)
	must(t, d.Append("b", []byte("xy")), d.Append("a", nil), d.Append("b", []byte("z")))
	shows(t, "appended", d, map[string]string{"a": "", "b": "xyz"})
	must(t, d.Append("c", []byte("1234567")))
	for _, name := range []string{"a", "b", "new"} {
		if e := d.Append(name, []byte{1}); e != api.ErrFull {
			t.Errorf("Append beyond the room is %d", e)
		}
	}
	must(t, d.Append("c", nil), d.Append("d", nil))
	shows(t, "full", d, map[string]string{"a": "", "b": "xyz", "c": "1234567", "d": ""})
	must(t, d.Remove("b"), d.Append("a", []byte("+++")))
	shows(t, "room again", d, map[string]string{"a": "+++", "c": "1234567", "d": ""})
	must(t, d.Truncate("c", 2), d.Append("a", []byte("=====")), d.Rename("a", "c"), d.Append("e", []byte("..")))
	shows(t, "room once more", d, map[string]string{"c": "+++=====", "d": "", "e": ".."})
	if e := d.Append("e", []byte("x")); e != api.ErrFull {
		t.Errorf("Append beyond the room is %d", e)
	}
}

func TestTruncateLeavesTheFirstBytes(t *testing.T) { // P4.1
	d := fresh(t, 100)
	if e := d.Truncate("a", -1); e != api.ErrNone {
		t.Errorf("Truncate of none is %d", e)
	}
	must(t, d.Append("a", []byte("abcdef")))
	for _, n := range []int{-1, 7, math.MinInt, math.MaxInt} {
		if e := d.Truncate("a", n); e != api.ErrArg {
			t.Errorf("Truncate to %d is %d", n, e)
		}
	}
	must(t, d.Truncate("a", 6), d.Truncate("a", 4))
	shows(t, "cut", d, map[string]string{"a": "abcd"})
	must(t, d.Append("a", []byte("XY")))
	shows(t, "cut and appended", d, map[string]string{"a": "abcdXY"})
	must(t, d.Truncate("a", 0))
	shows(t, "empty", d, map[string]string{"a": ""})
}

func TestRenameAndRemove(t *testing.T) { // P4.1
	d := fresh(t, 100)
	for _, e := range []api.Errno{d.Rename("a", "b"), d.Rename("a", "a"), d.Remove("a"), d.Sync("a")} {
		if e != api.ErrNone {
			t.Errorf("an act on no file is %d", e)
		}
	}
	must(t, d.Append("a", []byte("A")), d.Append("b", []byte("BB")), d.SyncDir())
	if e := d.Rename("a", "a"); e != api.ErrArg {
		t.Errorf("Rename to itself is %d", e)
	}
	must(t, d.Rename("a", "b"))
	shows(t, "renamed over another", d, map[string]string{"b": "A"})
	must(t, d.Rename("b", "c"), d.Append("b", []byte("new")))
	shows(t, "renamed", d, map[string]string{"b": "new", "c": "A"})
	must(t, d.Remove("c"))
	shows(t, "removed", d, map[string]string{"b": "new"})
	if _, e := d.Read("c"); e != api.ErrNone || d.Size("c") != -1 {
		t.Error("a removed file is there")
	}
}

func TestNamesThatMayNotBe(t *testing.T) { // P4.1
	d := fresh(t, 100)
	longest := strings.Repeat("\x00", 100)
	must(t, d.Append("a", []byte("A")), d.Append(longest, nil), d.Append("a b/\xff\n", nil))
	for _, name := range []string{"", longest + "x"} {
		for what, e := range map[string]api.Errno{
			"Append": d.Append(name, make([]byte, 1000)), "Truncate": d.Truncate(name, 0), "Sync": d.Sync(name), "Rename from": d.Rename(name, "b"), "Rename to": d.Rename("a", name), "Rename none to": d.Rename("none", name), "Remove": d.Remove(name),
		} {
			if e != api.ErrArg {
				t.Errorf("%s of %q is %d", what, name, e)
			}
		}
		if _, e := d.Read(name); e != api.ErrNone || d.Size(name) != -1 {
			t.Errorf("%q is there", name)
		}
	}
	shows(t, "refused", d, map[string]string{"a": "A", longest: "", "a b/\xff\n": ""})
}

// acts asks for one act of each kind, each of which would be OK.
func acts(d *disk.Disk) []api.Errno {
	return []api.Errno{d.Append("a", []byte("more")), d.Sync("a"), d.Truncate("a", 1), d.Rename("a", "z"), d.Remove("b"), d.SyncDir()}
}

func TestCutTakesThePowerAway(t *testing.T) { // P4.1, P4.2
	for n := -1; n < 7; n++ {
		d := fresh(t, 100)
		must(t, d.Append("a", []byte("A")), d.Append("b", []byte("B")))
		d.Cut(n)
		for i, e := range acts(d) {
			if want := map[bool]api.Errno{true: api.OK, false: api.ErrOff}[i < n]; e != want {
				t.Errorf("Cut(%d): act %d is %d", n, i, e)
			}
		}
		if d.Ops() != 8 {
			t.Errorf("Cut(%d): Ops is %d", n, d.Ops())
		}
	}
}

func TestRefusedActsCount(t *testing.T) { // P4.2
	d := fresh(t, 1)
	d.Cut(5)
	if d.Append("", nil) != api.ErrArg || d.Append("a", []byte("xx")) != api.ErrFull || d.Remove("a") != api.ErrNone || d.Rename("a", "") != api.ErrArg {
		t.Error("the acts are not refused as they should be")
	}
	must(t, d.Append("a", []byte("x")))
	for _, e := range []api.Errno{d.SyncDir(), d.Append("", nil), d.Remove("none"), d.Append("a", make([]byte, 9)), d.Rename("a", "a"), d.Truncate("a", -1), d.Sync("none")} {
		if e != api.ErrOff {
			t.Errorf("without power an act is %d", e)
		}
	}
	if d.Ops() != 12 {
		t.Errorf("Ops is %d", d.Ops())
	}
	shows(t, "without power", d, map[string]string{"a": "x"})
}

func TestPowerIsOffForGood(t *testing.T) { // P4.2
	d := fresh(t, 100)
	d.Cut(0)
	d.Cut(2)
	must(t, d.Append("a", nil))
	d.Cut(1)
	must(t, d.Append("a", []byte("x")))
	d.Cut(3)
	must(t, d.SyncDir(), d.SyncDir(), d.SyncDir())
	if d.SyncDir() != api.ErrOff {
		t.Error("the power does not go")
	}
	d.Cut(100)
	if d.SyncDir() != api.ErrOff || d.Append("b", nil) != api.ErrOff {
		t.Error("the power comes back")
	}
	must(t, d.Crash().SyncDir())
}

func TestAllIsLeftEarlyAndWalkedAgain(t *testing.T) { // P4.2
	d := fresh(t, 100)
	it := d.All()
	must(t, d.Append("b", []byte("x")), d.Append("a", nil), d.Append("c", nil))
	for range 2 {
		n := 0
		for name := range it {
			n++
			if name == "b" {
				break
			}
		}
		if n != 2 {
			t.Errorf("a walk that is left at the second file has seen %d", n)
		}
	}
	must(t, d.Remove("a"))
	for name := range it {
		if name == "a" {
			t.Error("a walk shows what is gone")
		}
	}
}

func TestNilDisk(t *testing.T) { // P4.2
	var d *disk.Disk
	for i, e := range append(acts(d), d.Append("", nil), d.Rename("a", "a")) {
		if e != api.ErrOff {
			t.Errorf("act %d is %d", i, e)
		}
	}
	if b, e := d.Read("a"); b != nil || e != api.ErrNone {
		t.Error("a nil Disk is read")
	}
	d.Cut(3)
	if d.Size("a") != -1 || len(d.Names()) != 0 || d.Used() != 0 || d.Ops() != 0 || d.Crash(1, 2) != nil {
		t.Error("a nil Disk has something")
	}
	for range d.All() {
		t.Error("a nil Disk has files")
	}
}

func TestCrashLeavesWhatIsSafe(t *testing.T) { // P4.3, P4.4
	d := fresh(t, 100)
	must(t, d.Append("a", []byte("safe")), d.Sync("a"))
	shows(t, "no SyncDir", d.Crash(), nil)
	must(t, d.SyncDir())
	shows(t, "all safe", d.Crash(), map[string]string{"a": "safe"})
	must(t, d.Append("a", []byte("+more")), d.Append("b", []byte("lost")))
	shows(t, "more that is not safe", d.Crash(), map[string]string{"a": "safe"})
	must(t, d.SyncDir())
	shows(t, "names without bytes", d.Crash(), map[string]string{"a": "safe", "b": ""})
	must(t, d.Remove("a"), d.Rename("b", "c"))
	shows(t, "neither removed nor renamed", d.Crash(), map[string]string{"a": "safe", "b": ""})
	must(t, d.Sync("c"))
	shows(t, "bytes are of the file, not of the name", d.Crash(), map[string]string{"a": "safe", "b": "lost"})
	must(t, d.SyncDir())
	shows(t, "removed and renamed", d.Crash(), map[string]string{"c": "lost"})
	must(t, d.Truncate("c", 2))
	shows(t, "truncated", d.Crash(), map[string]string{"c": "lo"})
	must(t, d.Append("c", []byte("xx")), d.Truncate("c", 3))
	shows(t, "what a Truncate leaves is safe", d.Crash(), map[string]string{"c": "lox"})
	shows(t, "the disk itself", d, map[string]string{"c": "lox"})
}

func TestCrashPicks(t *testing.T) { // P4.3
	d := fresh(t, 100)
	must(t, d.Append("a", []byte("AA")), d.Append("b", []byte("BBB")), d.Append("s", []byte("S")), d.Sync("s"), d.SyncDir())
	must(t, d.Rename("a", "c"), d.Remove("b"), d.Append("d", []byte("D")), d.Append("b", []byte("new")))
	for _, c := range []struct {
		picks []int
		want  map[string]string
	}{
		{nil, map[string]string{"a": "", "b": "", "s": "S"}},
		{[]int{0}, map[string]string{"a": "", "b": "", "s": "S"}},
		{[]int{5}, map[string]string{"a": "", "b": "", "s": "S"}},
		{[]int{5, 1}, map[string]string{"a": "A", "b": "", "s": "S"}},
		{[]int{5, 2, 2}, map[string]string{"a": "AA", "b": "BB", "s": "S"}},
		{[]int{0, 3, 3}, map[string]string{"a": "", "b": "BBB", "s": "S"}},
		{[]int{0, -1, -1, 9}, map[string]string{"a": "AA", "b": "BBB", "s": "S"}},
		{[]int{0, -2, -3, 9}, map[string]string{"a": "A", "b": "B", "s": "S"}},
		{[]int{0, 4, 6}, map[string]string{"a": "A", "b": "BB", "s": "S"}},
		{[]int{1, 3, 1}, map[string]string{"b": "BBB", "c": "A", "s": "S"}},
		{[]int{2, 2}, map[string]string{"c": "AA", "s": "S"}},
		{[]int{3, 1, 1}, map[string]string{"c": "A", "d": "D", "s": "S"}},
		{[]int{4, 2, 1, 0}, map[string]string{"b": "ne", "c": "A", "d": "", "s": "S"}},
		{[]int{-1, 0, 2, 1}, map[string]string{"b": "", "c": "AA", "d": "D", "s": "S"}},
		{[]int{-2, 0, 1}, map[string]string{"c": "", "d": "D", "s": "S"}},
		{[]int{-5, 1}, map[string]string{"a": "A", "b": "", "s": "S"}},
		{[]int{math.MaxInt, math.MinInt, math.MaxInt}, map[string]string{"c": "A", "s": "S"}},
	} {
		shows(t, "a crash", d.Crash(c.picks...), c.want)
	}
	shows(t, "the disk itself", d, map[string]string{"b": "new", "c": "AA", "d": "D", "s": "S"})
}

func TestFirstPickIsOfTheNames(t *testing.T) { // P4.3
	d := fresh(t, 100)
	must(t, d.Append("a", []byte("AAAA")), d.SyncDir())
	shows(t, "no names' acts", d.Crash(3), map[string]string{"a": ""})
	shows(t, "no names' acts", d.Crash(0, 3), map[string]string{"a": "AAA"})
	must(t, d.Append("a", nil), d.Truncate("a", 4), d.Sync("a"))
	shows(t, "no names' acts among these", d.Crash(1, 1, 1), map[string]string{"a": "AAAA"})
}

func TestBehindACrash(t *testing.T) { // P4.3, P4.4
	d := fresh(t, 8)
	must(t, d.Append("a", []byte("AAAA")))
	d.Cut(0)
	if d.SyncDir() != api.ErrOff {
		t.Error("the power is there")
	}
	other := d.Crash(1, 2)
	shows(t, "behind", other, map[string]string{"a": "AA"})
	if other.Ops() != 0 {
		t.Errorf("Ops is %d", other.Ops())
	}
	shows(t, "all of it is safe", other.Crash(), map[string]string{"a": "AA"})
	must(t, other.Append("a", []byte("123456")))
	if e := other.Append("a", []byte("7")); e != api.ErrFull {
		t.Errorf("the room is another one: %d", e)
	}
	shows(t, "what is appended there is not", other.Crash(), map[string]string{"a": "AA"})
	shows(t, "the first one stays", d, map[string]string{"a": "AAAA"})
}

func TestDiskKeepsAndSharesNothing(t *testing.T) { // P4.4
	d := fresh(t, 100)
	in := append(make([]byte, 0, 8), "abc"...)
	must(t, d.Append("a", in), d.Append("a", []byte("d")))
	in[0] = 'X'
	got, _ := d.Read("a")
	got[1] = 'X'
	_ = append(got[:2], "YYYYYY"...)
	if !bytes.Equal(in[:3], []byte("Xbc")) || in[:4][3] != 0 {
		t.Error("what was handed in is changed")
	}
	picks := []int{1, 2, 3}
	other := d.Crash(picks...)
	if !slices.Equal(picks, []int{1, 2, 3}) {
		t.Error("the picks are changed")
	}
	must(t, other.Append("a", []byte("!")), d.Truncate("a", 3), d.Append("a", []byte("?")))
	shows(t, "one disk", d, map[string]string{"a": "abc?"})
	shows(t, "the other one", other, map[string]string{"a": "ab!"})
	names := d.Names()
	names[0] = "zzz"
	shows(t, "its names", d, map[string]string{"a": "abc?"})
}
