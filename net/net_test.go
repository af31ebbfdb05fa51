package net_test

import (
	"fmt"
	"math"
	"math/rand"
	"slices"
	"strings"
	"testing"

	"cordwain/api"
	"cordwain/net"
)

// told is all that waits, as a text; that both walks agree is asked by the way.
func told(t *testing.T, n *net.Net) string {
	t.Helper()
	var l []string
	var ids []int
	for id, b := range n.All() {
		l = append(l, fmt.Sprintf("%d:%s", id, b))
		ids = append(ids, id)
	}
	if got := n.Waiting(); !slices.Equal(got, ids) {
		t.Errorf("Waiting is %v, not %v", got, ids)
	}
	return strings.Join(l, " ")
}

func is(t *testing.T, n *net.Net, want string) {
	t.Helper()
	if got := told(t, n); got != want {
		t.Errorf("waiting is %q, not %q", got, want)
	}
}

func filled(t *testing.T, words ...string) *net.Net {
	t.Helper()
	n := net.New()
	for i, s := range words {
		if id := n.Send([]byte(s)); id != i+1 {
			t.Fatalf("Send is %d, not %d", id, i+1)
		}
	}
	return n
}

func TestSendAndDeliver(t *testing.T) { // P23.1, P23.2
	n := net.New()
	is(t, n, "")
	n = filled(t, "a", "", "c")
	is(t, n, "1:a 2: 3:c")
	if b, e := n.Deliver(2); len(b) != 0 || e != api.OK {
		t.Errorf("Deliver(2) is %q, %d", b, e)
	}
	is(t, n, "1:a 3:c")
	if b, e := n.Deliver(3); string(b) != "c" || e != api.OK {
		t.Errorf("Deliver(3) is %q, %d", b, e)
	}
	for _, id := range []int{3, 2, 0, -1, 4, math.MaxInt, math.MinInt} {
		if b, e := n.Deliver(id); b != nil || e != api.ErrNone {
			t.Errorf("Deliver(%d) is %q, %d", id, b, e)
		}
	}
	if id := n.Send([]byte("d")); id != 4 {
		t.Errorf("Send is %d", id)
	}
	is(t, n, "1:a 4:d")
	if b, e := n.Deliver(1); string(b) != "a" || e != api.OK {
		t.Errorf("Deliver(1) is %q, %d", b, e)
	}
	n.Deliver(4)
	is(t, n, "")
	if id := n.Send(nil); id != 5 {
		t.Errorf("Send is %d", id)
	}
}

func TestDrop(t *testing.T) { // P23.1
	n := filled(t, "a", "b", "c")
	if n.Drop(2) != api.OK || n.Drop(2) != api.ErrNone || n.Drop(9) != api.ErrNone {
		t.Error("Drop")
	}
	is(t, n, "1:a 3:c")
	if b, e := n.Deliver(2); b != nil || e != api.ErrNone {
		t.Errorf("what is lost comes: %q, %d", b, e)
	}
}

func TestDouble(t *testing.T) { // P23.1
	n := filled(t, "a", "b")
	if id, e := n.Double(1); id != 3 || e != api.OK {
		t.Errorf("Double is %d, %d", id, e)
	}
	is(t, n, "1:a 2:b 3:a")
	if id, e := n.Double(3); id != 4 || e != api.OK {
		t.Errorf("Double is %d, %d", id, e)
	}
	for _, id := range []int{1, 3, 4} {
		if b, e := n.Deliver(id); string(b) != "a" || e != api.OK {
			t.Errorf("Deliver(%d) is %q, %d", id, b, e)
		}
	}
	for _, id := range []int{1, 0, 5} {
		if id, e := n.Double(id); id != 0 || e != api.ErrNone {
			t.Errorf("Double is %d, %d", id, e)
		}
	}
	is(t, n, "2:b")
	if id := n.Send(nil); id != 5 {
		t.Errorf("Send is %d behind refused ones", id)
	}
}

func TestSwap(t *testing.T) { // P23.1
	n := filled(t, "a", "b", "c", "d")
	if e := n.Swap(1, 3); e != api.OK {
		t.Errorf("Swap is %d", e)
	}
	is(t, n, "3:c 2:b 1:a 4:d")
	if e := n.Swap(2, 2); e != api.OK {
		t.Errorf("Swap with itself is %d", e)
	}
	n.Drop(2)
	for _, c := range [][2]int{{2, 1}, {1, 2}, {0, 0}, {9, 3}, {3, 9}, {2, 2}} {
		if e := n.Swap(c[0], c[1]); e != api.ErrNone {
			t.Errorf("Swap(%v) is %d", c, e)
		}
	}
	is(t, n, "3:c 1:a 4:d")
	if e := n.Swap(4, 3); e != api.OK {
		t.Errorf("Swap is %d", e)
	}
	is(t, n, "4:d 1:a 3:c")
	if b, e := n.Deliver(3); string(b) != "c" || e != api.OK {
		t.Errorf("Deliver(3) is %q, %d", b, e)
	}
	n.Send([]byte("e"))
	is(t, n, "4:d 1:a 5:e")
}

func TestAllMayBeLeft(t *testing.T) { // P23.1
	n := net.New()
	it := n.All()
	for _, s := range []string{"a", "b", "c", "d"} {
		n.Send([]byte(s))
	}
	n.Drop(1)
	for range 2 {
		var l []int
		for id := range it {
			if l = append(l, id); len(l) == 2 {
				break
			}
		}
		if !slices.Equal(l, []int{2, 3}) {
			t.Errorf("a walk that is left at the second has %v", l)
		}
	}
}

func TestNilAndZeroNet(t *testing.T) { // P23.1
	var n *net.Net
	b, e := n.Deliver(1)
	id, f := n.Double(1)
	if n.Send([]byte("a")) != 0 || b != nil || e != api.ErrNone || id != 0 || f != api.ErrNone || n.Drop(1) != api.ErrNone || n.Swap(1, 1) != api.ErrNone {
		t.Error("a nil Net has something")
	}
	is(t, n, "")
	n = new(net.Net)
	if n.Drop(1) != api.ErrNone || n.Send([]byte("a")) != 1 {
		t.Error("a zero Net")
	}
	is(t, n, "1:a")
}

func TestNetKeepsAndSharesNothing(t *testing.T) { // P23.2
	n := net.New()
	in := []byte("abc")
	n.Send(in)
	clear(in)
	is(t, n, "1:abc")
	for _, b := range n.All() {
		clear(b)
	}
	n.Double(1)
	b, _ := n.Deliver(1)
	clear(b)
	is(t, n, "2:abc")
	n.Waiting()[0] = 9
	is(t, n, "2:abc")
}

func TestNetIsAsALine(t *testing.T) { // P23.1, P23.2
	for seed := range 50 {
		r := rand.New(rand.NewSource(int64(seed)))
		n := net.New()
		type one struct {
			id int
			s  string
		}
		var line []one
		last := 0
		find := func(id int) int { return slices.IndexFunc(line, func(x one) bool { return x.id == id }) }
		for range 300 {
			a, b := 1+r.Intn(last+2), 1+r.Intn(last+2)
			i, j := find(a), find(b)
			switch r.Intn(6) {
			case 0, 1:
				last++
				s := fmt.Sprint("s", r.Intn(1000))
				line = append(line, one{last, s})
				if id := n.Send([]byte(s)); id != last {
					t.Fatalf("Send is %d", id)
				}
			case 2, 3:
				got, e := n.Deliver(a)
				if (e == api.OK) != (i >= 0) || i >= 0 && string(got) != line[i].s {
					t.Fatalf("Deliver(%d) is %q, %d", a, got, e)
				}
				if i >= 0 {
					line = slices.Delete(line, i, i+1)
				}
			case 4:
				id, e := n.Double(a)
				if (e == api.OK) != (i >= 0) {
					t.Fatalf("Double(%d) is %d, %d", a, id, e)
				}
				if i >= 0 {
					last++
					line = append(line, one{last, line[i].s})
				}
			default:
				if e := n.Swap(a, b); (e == api.OK) != (i >= 0 && j >= 0) {
					t.Fatalf("Swap(%d, %d) is %d", a, b, e)
				}
				if i >= 0 && j >= 0 {
					line[i], line[j] = line[j], line[i]
				}
			}
			var want []string
			for _, x := range line {
				want = append(want, fmt.Sprintf("%d:%s", x.id, x.s))
			}
			is(t, n, strings.Join(want, " "))
			if t.Failed() {
				t.FailNow()
			}
		}
	}
}
