package oindex_test

import (
	"bytes"
	"math"
	"slices"
	"testing"

	"cordwain/api"
	"cordwain/batch"
	"cordwain/oindex"
)

// file is batches of 50 bytes, of each Base and Last one.
func file(t *testing.T, ends ...int) []byte {
	t.Helper()
	var p []byte
	for i := 0; i < len(ends); i += 2 {
		b, e := batch.Encode(api.Batch{Base: ends[i], Last: ends[i+1]})
		if e != api.OK {
			t.Fatal(e)
		}
		p = append(p, b...)
	}
	return p
}

func same(t *testing.T, what string, got, want []oindex.Entry) {
	t.Helper()
	if !slices.Equal(got, want) {
		t.Errorf("%s: %v, not %v", what, got, want)
	}
}

func TestBuildCountsBytesThatHaveGoneBy(t *testing.T) { // P6.1
	p := file(t, 3, 4, 10, 10, 11, 20, 40, 50, 60, 60)
	all := []oindex.Entry{{10, 50}, {11, 100}, {40, 150}, {60, 200}}
	for _, every := range []int{1, 0, -1, math.MinInt, 49, 50} {
		same(t, "each", oindex.Build(p, every), all)
	}
	for _, every := range []int{51, 99, 100} {
		same(t, "each second", oindex.Build(p, every), []oindex.Entry{{11, 100}, {60, 200}})
	}
	for _, every := range []int{101, 150} {
		same(t, "each third", oindex.Build(p, every), []oindex.Entry{{40, 150}})
	}
	same(t, "one", oindex.Build(p, 200), []oindex.Entry{{60, 200}})
	same(t, "none", oindex.Build(p, 201), nil)
	same(t, "none", oindex.Build(p, math.MaxInt), nil)
	same(t, "of nothing", oindex.Build(nil, 1), nil)
	same(t, "of one", oindex.Build(p[:50], 1), nil)
	same(t, "of a part", oindex.Build(p[:120], 1), []oindex.Entry{{10, 50}})
	same(t, "of a Base that does not rise", oindex.Build(file(t, 3, 4, 10, 10, 10, 12, 13, 13), 1), []oindex.Entry{{10, 50}})
	b, _ := batch.Encode(api.Batch{Base: 70, Last: 70, Records: []api.Record{{Offset: 70, HasValue: true, Value: make([]byte, 45)}}})
	q := append(append(p[:50:50], b...), file(t, 80, 80)...)
	same(t, "of batches of other lengths", oindex.Build(q, 51), []oindex.Entry{{80, 50 + len(b)}})
}

func TestLookupIsTheLastThatIsNotAbove(t *testing.T) { // P6.1
	l := []oindex.Entry{{10, 50}, {20, 100}, {30, 150}}
	for offset, want := range map[int]int{-5: 0, 0: 0, 9: 0, 10: 50, 19: 50, 20: 100, 29: 100, 30: 150, math.MaxInt: 150, math.MinInt: 0} {
		if got := oindex.Lookup(l, offset); got != want {
			t.Errorf("Lookup(%d) is %d, not %d", offset, got, want)
		}
		if got := oindex.Lookup(nil, offset); got != 0 {
			t.Errorf("Lookup(%d) in nothing is %d", offset, got)
		}
	}
	if got := oindex.Lookup([]oindex.Entry{{5, 1}, {9, 2}, {3, 3}, {8, 4}}, 7); got != 3 {
		t.Errorf("Lookup where Offsets do not rise is %d", got)
	}
}

func TestEncodeAndDecode(t *testing.T) { // P6.2, P6.3
	l := []oindex.Entry{{0, 0}, {258, 1}, {math.MaxInt, math.MaxInt}}
	want := []byte{
		0, 0, 0, 0, 0, 0, 0, 0, 0, 0, 0, 0, 0, 0, 0, 0,
		0, 0, 0, 0, 0, 0, 1, 2, 0, 0, 0, 0, 0, 0, 0, 1,
		127, 255, 255, 255, 255, 255, 255, 255, 127, 255, 255, 255, 255, 255, 255, 255,
	}
	p, e := oindex.Encode(l)
	if !bytes.Equal(p, want) || e != api.OK {
		t.Errorf("Encode is %v, %d", p, e)
	}
	got, e := oindex.Decode(want)
	if same(t, "Decode", got, l); e != api.OK {
		t.Errorf("Decode is %d", e)
	}
	if p, e := oindex.Encode(nil); len(p) != 0 || e != api.OK {
		t.Errorf("Encode of nothing is %v, %d", p, e)
	}
	if l, e := oindex.Decode(nil); len(l) != 0 || e != api.OK {
		t.Errorf("Decode of nothing is %v, %d", l, e)
	}
	for i := 1; i < len(want); i++ {
		if l, e := oindex.Decode(want[:i]); (e == api.OK) != (i%16 == 0) || e != api.OK && (l != nil || e != api.ErrBad) {
			t.Errorf("Decode of %d bytes is %v, %d", i, l, e)
		}
	}
	for _, i := range []int{0, 8, 16, 24} {
		q := slices.Clone(want)
		q[i] |= 128
		if l, e := oindex.Decode(q); l != nil || e != api.ErrBad {
			t.Errorf("Decode of a number below 0 is %v, %d", l, e)
		}
	}
	for _, l := range [][]oindex.Entry{{{-1, 0}}, {{0, -1}}, {{5, 5}, {5, 6}}, {{5, 5}, {6, 5}}, {{5, 5}, {4, 6}}, {{5, 5}, {6, 4}}, {{1, 1}, {2, 2}, {2, 3}}, {{math.MinInt, 1}}} {
		if p, e := oindex.Encode(l); p != nil || e != api.ErrArg {
			t.Errorf("Encode of %v is %v, %d", l, p, e)
		}
	}
	for _, q := range [][]byte{append(want[:16:16], want[:16]...), {0, 0, 0, 0, 0, 0, 0, 1, 0, 0, 0, 0, 0, 0, 0, 8, 0, 0, 0, 0, 0, 0, 0, 1, 0, 0, 0, 0, 0, 0, 0, 9}, append(want[16:32:32], want[:16]...), {0, 0, 0, 0, 0, 0, 0, 1, 0, 0, 0, 0, 0, 0, 0, 9, 0, 0, 0, 0, 0, 0, 0, 2, 0, 0, 0, 0, 0, 0, 0, 9}} {
		if l, e := oindex.Decode(q); l != nil || e != api.ErrBad {
			t.Errorf("Decode of entries that do not rise is %v, %d", l, e)
		}
	}
}

// plain is a walk from the beginning.
func plain(p []byte, offset int) (int, bool) {
	for at, b := range batch.All(p) {
		if b.Last >= offset {
			return at, true
		}
	}
	return 0, false
}

func TestSeekTellsWhatAWalkTells(t *testing.T) { // P6.2, P6.3
	p := file(t, 3, 4, 10, 10, 11, 20, 40, 50, 60, 60)
	for _, every := range []int{1, 60, 120, 1000} {
		for offset := -1; offset < 65; offset++ {
			pos, ok := oindex.Seek(p, oindex.Build(p, every), offset)
			if want, there := plain(p, offset); pos != want || ok != there {
				t.Errorf("every %d: Seek(%d) is %d, %v, not %d, %v", every, offset, pos, ok, want, there)
			}
		}
	}
	if pos, ok := oindex.Seek(nil, nil, 0); pos != 0 || ok {
		t.Errorf("Seek in nothing is %d, %v", pos, ok)
	}
}

func TestSeekByAnIndexOfOthers(t *testing.T) { // P6.2
	p := file(t, 3, 4, 10, 10, 11, 20, 40, 50, 60, 60)
	spoilt := append(slices.Clone(p), 1, 2, 3)
	spoilt = append(spoilt, file(t, 70, 70)...)
	for _, c := range []struct {
		what   string
		p      []byte
		pos    int
		offset int
		want   int
		ok     bool
	}{
		{"a place where one begins", p, 150, 3, 150, true},
		{"the last place", p, 200, 3, 200, true},
		{"a place ahead of it", p, 50, 45, 150, true},
		{"a place that is it", p, 150, 45, 150, true},
		{"a place within one", p, 151, 3, 0, true},
		{"a place within one, further on", p, 151, 45, 150, true},
		{"a place behind all", p, 250, 3, 0, true},
		{"a place beyond", p, 10000, 12, 100, true},
		{"a place below 0", p, -50, 12, 100, true},
		{"a place of one that is not of All", spoilt, 253, 3, 0, true},
		{"a place of one that is not of All, for it", spoilt, 253, 65, 0, false},
		{"none, from a place", p, 150, 61, 0, false},
		{"none, from no place", p, 151, 61, 0, false},
	} {
		l := []oindex.Entry{{math.MinInt, c.pos}}
		if pos, ok := oindex.Seek(c.p, l, c.offset); pos != c.want || ok != c.ok {
			t.Errorf("%s: %d, %v", c.what, pos, ok)
		}
	}
}

func TestNothingHandedInIsChanged(t *testing.T) { // P6.3
	p := file(t, 3, 4, 10, 10, 11, 20)
	kept := slices.Clone(p)
	l := oindex.Build(p, 1)
	entries := slices.Clone(l)
	q, _ := oindex.Encode(l)
	oindex.Seek(p, l, 7)
	oindex.Lookup(l, 7)
	got, _ := oindex.Decode(q)
	clear(q)
	same(t, "Decode", got, entries)
	same(t, "the entries", l, entries)
	got[0].Pos = 77
	same(t, "Build again", oindex.Build(p, 1), entries)
	if !bytes.Equal(p, kept) {
		t.Error("the bytes are changed")
	}
}
