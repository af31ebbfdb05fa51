package keymap_test

import (
	"fmt"
	"math"
	"slices"
	"strings"
	"testing"

	"cordwain/api"
	"cordwain/keymap"
)

func fresh(t *testing.T, most int) *keymap.Map {
	t.Helper()
	m, e := keymap.New(most)
	if e != api.OK || m == nil {
		t.Fatalf("New(%d) is %d", most, e)
	}
	return m
}

// told is all that a map shows, as a text.
func told(t *testing.T, m *keymap.Map) string {
	t.Helper()
	var l []string
	for key, offset := range m.All() {
		l = append(l, fmt.Sprintf("%s=%d", key, offset))
		if last, ok := m.Last(key); last != offset || !ok {
			t.Errorf("Last(%q) is %d, %v, not %d", key, last, ok, offset)
		}
	}
	if m.Len() != len(l) {
		t.Errorf("Len is %d, of %d", m.Len(), len(l))
	}
	return strings.Join(l, " ")
}

func TestNew(t *testing.T) { // P12.1
	for _, most := range []int{0, -1, 1000001, math.MinInt, math.MaxInt} {
		if m, e := keymap.New(most); m != nil || e != api.ErrArg {
			t.Errorf("New(%d) is %v, %d", most, m, e)
		}
	}
	for _, most := range []int{1, 2, 1000000} {
		if got := told(t, fresh(t, most)); got != "" {
			t.Errorf("a new one has %q", got)
		}
	}
}

func TestOfferKeepsTheGreatest(t *testing.T) { // P12.1, P12.3
	m := fresh(t, 3)
	for _, c := range []struct {
		key    string
		offset int
		want   bool
		all    string
	}{
		{"b", 5, true, "b=5"}, {"b", 3, true, "b=5"}, {"b", 5, true, "b=5"}, {"b", 9, true, "b=9"}, {"", -4, true, "=-4 b=9"}, {"", -9, true, "=-4 b=9"}, {"", 0, true, "=0 b=9"},
		{"a", math.MinInt, true, "=0 a=-9223372036854775808 b=9"}, {"c", 99, false, "=0 a=-9223372036854775808 b=9"}, {"a", 2, true, "=0 a=2 b=9"}, {"bb", 0, false, "=0 a=2 b=9"}, {"b", 10, true, "=0 a=2 b=10"},
	} {
		if got := m.Offer([]byte(c.key), c.offset); got != c.want {
			t.Errorf("Offer(%q, %d) is %v", c.key, c.offset, got)
		}
		if got := told(t, m); got != c.all {
			t.Errorf("behind Offer(%q, %d): %q, not %q", c.key, c.offset, got, c.all)
		}
	}
	if offset, ok := m.Last([]byte("c")); offset != 0 || ok {
		t.Errorf("Last of none is %d, %v", offset, ok)
	}
	if offset, ok := m.Last(nil); offset != 0 || !ok {
		t.Errorf("Last of the empty key is %d, %v", offset, ok)
	}
	one := fresh(t, 1)
	if !one.Offer([]byte("a"), 0) || one.Offer([]byte("b"), 0) || told(t, one) != "a=0" {
		t.Error("a map of one key")
	}
}

func TestAllIsByBytesAndMayBeLeft(t *testing.T) { // P12.1
	m := fresh(t, 100)
	it := m.All()
	keys := []string{"b", "a", "ab", "", "\xff", "a\x00", "B"}
	for i, key := range keys {
		m.Offer([]byte(key), i)
	}
	slices.Sort(keys)
	for range 2 {
		var got []string
		for key := range it {
			if got = append(got, string(key)); len(got) == 3 {
				break
			}
		}
		if !slices.Equal(got, keys[:3]) {
			t.Errorf("a walk that is left has %q", got)
		}
	}
	var got []string
	for key := range it {
		got = append(got, string(key))
		clear(key)
	}
	if !slices.Equal(got, keys) {
		t.Errorf("All is %q", got)
	}
	if told(t, m); m.Len() != len(keys) {
		t.Error("a key that was answered is the map's own")
	}
}

// of is a batch from base to last with records of keys, one by one; "-" has none.
func of(base, last int, keys ...string) api.Batch {
	b := api.Batch{Base: base, Last: last}
	for i, key := range keys {
		r := api.Record{Offset: base + i}
		if key != "-" {
			r.HasKey, r.Key = true, []byte(key)
		}
		b.Records = append(b.Records, r)
	}
	return b
}

func TestBuild(t *testing.T) { // P12.2, P12.3
	l := []api.Batch{of(10, 12, "a", "-", "b"), of(13, 15, "a", "c", "-"), of(20, 29), of(30, 33, "b", "d", "", "b")}
	for _, c := range []struct {
		what       string
		l          []api.Batch
		from, most int
		all        string
		upto       int
	}{
		{"all", l, 0, 100, "=32 a=13 b=33 c=14 d=31", 34},
		{"just room", l, 0, 5, "=32 a=13 b=33 c=14 d=31", 34},
		{"no room in the last", l, 0, 4, "a=13 b=12 c=14", 30},
		{"no room in the last", l, 0, 3, "a=13 b=12 c=14", 30},
		{"no room in the second", l, 0, 2, "a=10 b=12", 13},
		{"no room in the first", l, 0, 1, "", 10},
		{"room clamped to one", l, 0, 0, "", 10},
		{"room clamped to one", l, 0, math.MinInt, "", 10},
		{"room clamped", l, 0, math.MaxInt, "=32 a=13 b=33 c=14 d=31", 34},
		{"from the middle", l, 13, 100, "=32 a=13 b=33 c=14 d=31", 34},
		{"from within a batch", l, 14, 100, "=32 b=33 c=14 d=31", 34},
		{"from within a batch, that has just room", l, 14, 1, "c=14", 30},
		{"from within a batch that has no room", l, 31, 2, "", 31},
		{"from within a batch that has just room", l, 32, 2, "=32 b=33", 34},
		{"from behind all", l, 40, 1, "", 40},
		{"from Last and one", l, 34, 1, "", 34},
		{"from the last one", l, 33, 1, "b=33", 34},
		{"from below 0", l, -7, 100, "=32 a=13 b=33 c=14 d=31", 34},
		{"of nothing", nil, 7, 100, "", 7},
		{"of nothing, from below 0", nil, -7, 100, "", -7},
		{"of a batch without records", l[2:3], 7, 1, "", 30},
		{"one key", []api.Batch{of(0, 3, "k", "k", "k"), of(4, 4, "k"), of(5, 5, "-"), of(6, 6, "x"), of(7, 7, "k")}, 0, 1, "k=4", 6},
		{"a key without HasKey", []api.Batch{{Last: 0, Records: []api.Record{{Key: []byte("a")}}}}, 0, 1, "", 1},
		{"Offsets that fall", []api.Batch{of(9, 9, "a"), of(4, 4, "a")}, 0, 1, "a=9", 5},
	} {
		m, upto := keymap.Build(c.l, c.from, c.most)
		if got := told(t, m); got != c.all || upto != c.upto {
			t.Errorf("%s: %q, %d, not %q, %d", c.what, got, upto, c.all, c.upto)
		}
	}
	if told(t, firstOf(keymap.Build(l, 0, 3))) != "a=13 b=12 c=14" || l[0].Records[0].Key[0] != 'a' {
		t.Error("what was handed in is changed")
	}
}

func firstOf(m *keymap.Map, _ int) *keymap.Map { return m }

func TestBuiltMapHasItsRoom(t *testing.T) { // P12.2
	m, _ := keymap.Build([]api.Batch{of(0, 0, "a")}, 0, 2)
	if !m.Offer([]byte("b"), 1) || m.Offer([]byte("c"), 1) {
		t.Error("a built map has other room")
	}
	m, _ = keymap.Build(nil, 0, -5)
	if !m.Offer([]byte("b"), 1) || m.Offer([]byte("c"), 1) {
		t.Error("a built map has other room than one")
	}
}

func TestNilMap(t *testing.T) { // P12.1
	var m *keymap.Map
	offset, ok := m.Last(nil)
	if m.Offer([]byte("a"), 1) || offset != 0 || ok || m.Len() != 0 || told(t, m) != "" {
		t.Error("a nil Map has something")
	}
	if zero := new(keymap.Map); zero.Offer([]byte("a"), 1) || zero.Len() != 0 {
		t.Error("a zero Map has room")
	}
}

func TestMapKeepsNothing(t *testing.T) { // P12.3
	m := fresh(t, 10)
	key := []byte("abc")
	m.Offer(key, 1)
	l := []api.Batch{of(0, 0, "abc")}
	built, _ := keymap.Build(l, 0, 10)
	clear(key)
	clear(l[0].Records[0].Key)
	if told(t, m) != "abc=1" || told(t, built) != "abc=0" {
		t.Error("a key is kept")
	}
}
