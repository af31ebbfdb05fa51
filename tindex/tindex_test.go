package tindex_test

import (
	"bytes"
	"math"
	"slices"
	"testing"

	"cordwain/api"
	"cordwain/batch"
	"cordwain/oindex"
	"cordwain/tindex"
)

// file is a batch for each list of times, with records at offsets from 10 on, each second one.
func file(t *testing.T, lists ...[]int) []byte {
	t.Helper()
	var p []byte
	offset := 10
	for _, times := range lists {
		b := api.Batch{Base: offset}
		for _, time := range times {
			b.Records = append(b.Records, api.Record{Offset: offset, Time: time})
			offset += 2
		}
		offset++
		b.Last = offset - 1
		q, e := batch.Encode(b)
		if e != api.OK {
			t.Fatal(e)
		}
		p = append(p, q...)
	}
	return p
}

func same(t *testing.T, what string, got, want []tindex.Entry) {
	t.Helper()
	if !slices.Equal(got, want) {
		t.Errorf("%s: %v, not %v", what, got, want)
	}
}

func lists() [][]int {
	return [][]int{{5, 3}, {9, 4}, nil, {2}, {30, 8}, {30}}
}

func TestBuildHasTheGreatestTimeAhead(t *testing.T) { // P7.1
	p := file(t, lists()...)
	all := []tindex.Entry{{5, 15}, {9, 20}, {9, 21}, {9, 24}, {30, 29}}
	for _, every := range []int{1, 0, math.MinInt, 50} {
		same(t, "each", tindex.Build(p, every), all)
	}
	for every := 40; every < 400; every++ {
		var bases []int
		for _, x := range oindex.Build(p, every) {
			bases = append(bases, x.Offset)
		}
		var got []int
		for _, x := range tindex.Build(p, every) {
			got = append(got, x.Offset)
			if !slices.Contains(all, x) {
				t.Errorf("every %d: the entry %v", every, x)
			}
		}
		if !slices.Equal(got, bases) {
			t.Errorf("every %d: entries at %v, 6's at %v", every, got, bases)
		}
	}
	same(t, "of nothing", tindex.Build(nil, 1), nil)
	same(t, "of a part", tindex.Build(p[:130], 1), all[:1])
	same(t, "ahead of a batch without records", tindex.Build(file(t, nil, nil, []int{7}, nil), 1), []tindex.Entry{{0, 11}, {0, 12}, {7, 15}})
}

func TestLookupIsTheGreatestOffsetOfAnEarlierTime(t *testing.T) { // P7.1
	l := []tindex.Entry{{5, 10}, {5, 20}, {9, 30}}
	for time, want := range map[int]int{math.MinInt: 0, 0: 0, 5: 0, 6: 20, 9: 20, 10: 30, math.MaxInt: 30} {
		if got := tindex.Lookup(l, time); got != want {
			t.Errorf("Lookup(%d) is %d, not %d", time, got, want)
		}
		if got := tindex.Lookup(nil, time); got != 0 {
			t.Errorf("Lookup(%d) in nothing is %d", time, got)
		}
	}
	for _, c := range []struct {
		l    []tindex.Entry
		want int
	}{
		{[]tindex.Entry{{1, 50}, {9, 70}, {2, 60}, {3, 40}}, 60}, {[]tindex.Entry{{1, -4}}, 0}, {[]tindex.Entry{{1, -4}, {2, 8}}, 8}, {[]tindex.Entry{{-9, math.MaxInt}}, math.MaxInt},
	} {
		if got := tindex.Lookup(c.l, 5); got != c.want {
			t.Errorf("Lookup in %v is %d", c.l, got)
		}
	}
}

func TestEncodeAndDecode(t *testing.T) { // P7.2
	l := []tindex.Entry{{0, 0}, {0, 1}, {258, 2}, {math.MaxInt, math.MaxInt}}
	want := []byte{
		0, 0, 0, 0, 0, 0, 0, 0, 0, 0, 0, 0, 0, 0, 0, 0,
		0, 0, 0, 0, 0, 0, 0, 0, 0, 0, 0, 0, 0, 0, 0, 1,
		0, 0, 0, 0, 0, 0, 1, 2, 0, 0, 0, 0, 0, 0, 0, 2,
		127, 255, 255, 255, 255, 255, 255, 255, 127, 255, 255, 255, 255, 255, 255, 255,
	}
	p, e := tindex.Encode(l)
	if !bytes.Equal(p, want) || e != api.OK {
		t.Errorf("Encode is %v, %d", p, e)
	}
	got, e := tindex.Decode(want)
	if same(t, "Decode", got, l); e != api.OK {
		t.Errorf("Decode is %d", e)
	}
	if p, e := tindex.Encode(nil); len(p) != 0 || e != api.OK {
		t.Errorf("Encode of nothing is %v, %d", p, e)
	}
	for i := range want {
		if l, e := tindex.Decode(want[:i]); (e == api.OK) != (i%16 == 0) || len(l) != 0 && e != api.OK || e != api.OK && e != api.ErrBad {
			t.Errorf("Decode of %d bytes is %v, %d", i, l, e)
		}
	}
	for _, i := range []int{0, 8, 32, 40} {
		q := slices.Clone(want)
		q[i] |= 128
		if l, e := tindex.Decode(q); l != nil || e != api.ErrBad {
			t.Errorf("Decode of a number below 0 is %v, %d", l, e)
		}
	}
	for _, l := range [][]tindex.Entry{{{-1, 0}}, {{0, -1}}, {{5, 5}, {4, 6}}, {{5, 5}, {5, 5}}, {{5, 5}, {6, 5}}, {{5, 5}, {6, 4}}, {{1, 1}, {2, 2}, {1, 3}}} {
		if p, e := tindex.Encode(l); p != nil || e != api.ErrArg {
			t.Errorf("Encode of %v is %v, %d", l, p, e)
		}
	}
	number := func(n byte) []byte { return []byte{0, 0, 0, 0, 0, 0, 0, n} }
	for _, l := range [][4]byte{{5, 5, 4, 6}, {5, 5, 5, 5}, {5, 5, 6, 5}, {5, 5, 6, 4}} {
		q := slices.Concat(number(l[0]), number(l[1]), number(l[2]), number(l[3]))
		if got, e := tindex.Decode(q); got != nil || e != api.ErrBad {
			t.Errorf("Decode of %v is %v, %d", l, got, e)
		}
	}
}

// plain is a walk from the beginning over records at from and behind.
func plain(p []byte, from, time int) (int, bool) {
	for _, b := range batch.All(p) {
		for _, r := range b.Records {
			if r.Offset >= from && r.Time >= time {
				return r.Offset, true
			}
		}
	}
	return 0, false
}

func TestFindTellsWhatAWalkTells(t *testing.T) { // P7.2, P7.3
	p := file(t, lists()...)
	for _, every := range []int{1, 60, 120, 1000} {
		for time := -1; time < 35; time++ {
			offset, ok := tindex.Find(p, tindex.Build(p, every), time)
			if want, there := plain(p, 0, time); offset != want || ok != there {
				t.Errorf("every %d: Find(%d) is %d, %v, not %d, %v", every, time, offset, ok, want, there)
			}
		}
	}
	p = file(t, []int{5, 3, 9})
	if offset, ok := tindex.Find(p, nil, 4); offset != 10 || !ok {
		t.Errorf("Find(4) is %d, %v", offset, ok)
	}
	if offset, ok := tindex.Find(p, nil, 6); offset != 14 || !ok {
		t.Errorf("Find(6) is %d, %v", offset, ok)
	}
	if offset, ok := tindex.Find(nil, nil, 0); offset != 0 || ok {
		t.Errorf("Find in nothing is %d, %v", offset, ok)
	}
}

func TestFindByAnIndexOfOthers(t *testing.T) { // P7.2
	p := file(t, lists()...)
	for from := -3; from < 40; from++ {
		for _, time := range []int{0, 3, 9, 30, 31} {
			offset, ok := tindex.Find(p, []tindex.Entry{{-1, from}}, time)
			if want, there := plain(p, from, time); offset != want || ok != there {
				t.Errorf("from %d: Find(%d) is %d, %v, not %d, %v", from, time, offset, ok, want, there)
			}
		}
	}
}

func TestNothingHandedInIsChanged(t *testing.T) { // P7.3
	p := file(t, lists()...)
	kept := slices.Clone(p)
	l := tindex.Build(p, 1)
	entries := slices.Clone(l)
	q, _ := tindex.Encode(l)
	tindex.Find(p, l, 7)
	tindex.Lookup(l, 7)
	got, _ := tindex.Decode(q)
	clear(q)
	same(t, "Decode", got, entries)
	same(t, "the entries", l, entries)
	got[0].Offset = 77
	same(t, "Build again", tindex.Build(p, 1), entries)
	if !bytes.Equal(p, kept) {
		t.Error("the bytes are changed")
	}
}
