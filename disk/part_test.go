package disk_test

import (
	"math"
	"testing"

	"cordwain/disk"
)

func TestPartIsSomeOfTheBytes(t *testing.T) { // for the packages below
	d := fresh(t, 100)
	must(t, d.Append("a", []byte("abcdef")))
	for _, c := range []struct {
		from, n int
		want    string
	}{
		{0, 6, "abcdef"}, {0, 2, "ab"}, {4, 2, "ef"}, {6, 0, ""}, {5, 2, ""}, {7, 0, ""}, {-1, 2, ""}, {1, -1, ""}, {1, math.MaxInt, ""}, {math.MaxInt, math.MaxInt, ""},
	} {
		if got := d.Part("a", c.from, c.n); string(got) != c.want {
			t.Errorf("Part(%d, %d) is %q", c.from, c.n, got)
		}
	}
	d.Part("a", 0, 6)[0] = 'X'
	shows(t, "its bytes", d, map[string]string{"a": "abcdef"})
	var none *disk.Disk
	if d.Part("b", 0, 0) != nil || none.Part("a", 0, 0) != nil {
		t.Error("a part of no file")
	}
}

func TestZeroDiskHasNoRoom(t *testing.T) { // rule 1 of DOC.md
	var d disk.Disk
	shows(t, "zero", d.Crash(1, 2), nil)
	must(t, d.Append("a", nil), d.SyncDir())
	shows(t, "zero", &d, map[string]string{"a": ""})
	shows(t, "zero", d.Crash(), map[string]string{"a": ""})
}
