package num_test

import (
	"bytes"
	"math"
	"slices"
	"testing"

	"cordwain/api"
	"cordwain/num"
)

// edges are the numbers about which lengths change, and the outermost ones.
func edges() []int {
	l := []int{0, 1, -1, 2, -2, math.MaxInt, math.MaxInt - 1, math.MinInt, math.MinInt + 1}
	for shift := 6; shift < 63; shift += 7 {
		n := 1 << shift
		l = append(l, n-1, n, n+1, -n-1, -n, -n+1)
	}
	return l
}

func TestZigCountsOutFromNought(t *testing.T) { // P1.1
	for u, n := range []int{0, -1, 1, -2, 2, -3, 3} {
		if got := num.Zig(n); got != uint64(u) {
			t.Errorf("Zig(%d) is %d, not %d", n, got, u)
		}
		if got := num.Zag(uint64(u)); got != n {
			t.Errorf("Zag(%d) is %d, not %d", u, got, n)
		}
	}
	if num.Zig(math.MaxInt) != math.MaxUint64-1 || num.Zig(math.MinInt) != math.MaxUint64 {
		t.Error("the outermost numbers do not fill 64 digits")
	}
	for _, n := range edges() {
		if num.Zag(num.Zig(n)) != n {
			t.Errorf("Zag(Zig(%d)) is %d", n, num.Zag(num.Zig(n)))
		}
	}
}

func TestPutIsTheShortest(t *testing.T) { // P1.1
	for _, c := range []struct {
		n    int
		want []byte
	}{
		{0, []byte{0}}, {-1, []byte{1}}, {63, []byte{126}}, {-64, []byte{127}}, {64, []byte{128, 1}}, {-65, []byte{129, 1}},
		{8191, []byte{254, 127}}, {8192, []byte{128, 128, 1}},
		{math.MinInt, []byte{255, 255, 255, 255, 255, 255, 255, 255, 255, 1}},
		{math.MaxInt, []byte{254, 255, 255, 255, 255, 255, 255, 255, 255, 1}},
	} {
		if got := num.Put(c.n); !bytes.Equal(got, c.want) {
			t.Errorf("Put(%d) is %v, not %v", c.n, got, c.want)
		}
	}
	for _, n := range edges() {
		if num.Size(n) != len(num.Put(n)) {
			t.Errorf("Size(%d) is %d, but Put has %d bytes", n, num.Size(n), len(num.Put(n)))
		}
	}
}

func TestGetReadsWhatPutWrote(t *testing.T) { // P1.2, P1.3
	for _, n := range edges() {
		for _, tail := range [][]byte{nil, {0}, {255, 255}, num.Put(-n)} {
			b := append(num.Put(n), tail...)
			got, used, e := num.Get(b)
			if got != n || used != num.Size(n) || e != api.OK {
				t.Errorf("Get(%v) is %d, %d, %d", b, got, used, e)
			}
		}
	}
}

func TestGetRefuses(t *testing.T) { // P1.2
	full := bytes.Repeat([]byte{255}, 9)
	for _, b := range [][]byte{
		nil, {}, {128}, {255, 255}, full, // too short
		{128, 0}, {129, 128, 0}, {255, 0, 7}, append(slices.Clone(full), 0), // longer than the shortest
		append(slices.Clone(full), 2), append(slices.Clone(full), 3), append(slices.Clone(full), 127), append(slices.Clone(full), 129, 0), append(slices.Clone(full), 255, 1), bytes.Repeat([]byte{128}, 40), // beyond 64 digits
	} {
		if n, used, e := num.Get(b); n != 0 || used != 0 || e != api.ErrBad {
			t.Errorf("Get(%v) is %d, %d, %d", b, n, used, e)
		}
	}
}

func walk(it func(func(int) bool), most int) (l []int) {
	for n := range it {
		if l = append(l, n); len(l) == most {
			break
		}
	}
	return l
}

func TestAllGoesOnAsLongAsThereAreNumbers(t *testing.T) { // P1.2
	var b []byte
	for _, n := range edges() {
		b = append(b, num.Put(n)...)
	}
	if got := walk(num.All(b), -1); !slices.Equal(got, edges()) {
		t.Errorf("All is %v", got)
	}
	for _, c := range []struct {
		b    []byte
		most int
		want []int
	}{
		{nil, -1, nil}, {[]byte{128}, -1, nil}, {[]byte{2, 128, 0, 2}, -1, []int{1}}, {[]byte{0, 1, 128, 1, 4}, -1, []int{0, -1, 64, 2}},
		{[]byte{0, 1, 2}, 1, []int{0}}, {[]byte{0, 1, 2}, 2, []int{0, -1}}, {[]byte{4, 4, 255}, -1, []int{2, 2}},
	} {
		if got := walk(num.All(c.b), c.most); !slices.Equal(got, c.want) {
			t.Errorf("All(%v) is %v", c.b, got)
		}
	}
}

func TestAllMayBeWalkedAgain(t *testing.T) { // P1.3, the iterators of DOC.md
	b := []byte{2, 4, 6}
	it := num.All(b)
	walk(it, 1)
	b[0], b[1] = 0, 0
	for range 2 {
		if got := walk(it, -1); !slices.Equal(got, []int{1, 2, 3}) {
			t.Errorf("a walk again shows %v", got)
		}
	}
}

func TestAnswersAreNewMemory(t *testing.T) { // P1.3
	p := num.Put(64)
	p[0] = 7
	if q := num.Put(64); q[0] != 128 {
		t.Error("two answers share memory")
	}
	b := []byte{128, 1, 9}
	num.Get(b)
	walk(num.All(b), -1)
	if !bytes.Equal(b, []byte{128, 1, 9}) {
		t.Error("what was handed in is changed")
	}
}
