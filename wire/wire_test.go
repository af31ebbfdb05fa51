package wire_test

import (
	"bytes"
	"math"
	"slices"
	"testing"

	"cordwain/api"
	"cordwain/num"
	"cordwain/wire"
)

func written(t *testing.T, w *wire.Writer) []byte {
	t.Helper()
	b, ok := w.Done()
	if !ok {
		t.Fatal("a good Writer is bad")
	}
	return b
}

func TestZeroWriterHasNothing(t *testing.T) { // P3.1
	var w wire.Writer
	if b, ok := w.Done(); len(b) != 0 || !ok {
		t.Errorf("Done is %v, %v", b, ok)
	}
}

func TestWriterWritesFields(t *testing.T) { // P3.1
	for _, c := range []struct {
		what string
		w    *wire.Writer
		want []byte
	}{
		{"Fixed of two", new(wire.Writer).Fixed(258, 2), []byte{1, 2}},
		{"Fixed of one", new(wire.Writer).Fixed(255, 1).Fixed(0, 1), []byte{255, 0}},
		{"Fixed of eight", new(wire.Writer).Fixed(math.MaxInt, 8), []byte{127, 255, 255, 255, 255, 255, 255, 255}},
		{"Fixed of seven", new(wire.Writer).Fixed(1<<56-1, 7), []byte{255, 255, 255, 255, 255, 255, 255}},
		{"Num", new(wire.Writer).Num(64).Num(-1).Num(0), []byte{128, 1, 1, 0}},
		{"Bytes", new(wire.Writer).Bytes([]byte{7, 8}).Bytes(nil), []byte{4, 7, 8, 0}},
		{"Text", new(wire.Writer).Text("ab").Text(""), []byte{4, 'a', 'b', 0}},
		{"all", new(wire.Writer).Num(1).Text("x").Fixed(9, 3).Bytes([]byte{5}), []byte{2, 2, 'x', 0, 0, 9, 2, 5}},
	} {
		if got := written(t, c.w); !bytes.Equal(got, c.want) {
			t.Errorf("%s: %v, not %v", c.what, got, c.want)
		}
	}
	long := make([]byte, 70)
	if got := written(t, new(wire.Writer).Bytes(long)); !bytes.Equal(got, append(num.Put(70), long...)) {
		t.Error("the length of many bytes is not 1's Put")
	}
}

func TestEachWriteTellsTheWriter(t *testing.T) { // P3.1
	var w wire.Writer
	for _, got := range []*wire.Writer{w.Fixed(1, 1), w.Num(2), w.Bytes(nil), w.Text("a"), w.Fixed(-1, 1), w.Num(1), w.Bytes(nil), w.Text("")} {
		if got != &w {
			t.Error("a write tells another Writer")
		}
	}
}

func TestWriterGoesBadAndStaysSo(t *testing.T) { // P3.1
	for _, c := range []struct{ n, size int }{
		{-1, 1}, {-1, 8}, {math.MinInt, 4}, {256, 1}, {1 << 16, 2}, {1 << 24, 3}, {1 << 32, 4}, {1 << 40, 5}, {1 << 48, 6}, {1 << 56, 7}, {0, 0}, {0, 9}, {5, -1}, {5, math.MaxInt}, {5, math.MinInt},
	} {
		w := new(wire.Writer).Num(3).Fixed(c.n, c.size)
		if b, ok := w.Done(); len(b) != 0 || ok {
			t.Errorf("Fixed(%d, %d): Done is %v, %v", c.n, c.size, b, ok)
		}
		if b, ok := w.Fixed(1, 1).Num(1).Text("a").Bytes([]byte{1}).Done(); len(b) != 0 || ok {
			t.Errorf("Fixed(%d, %d): Done is %v, %v further on", c.n, c.size, b, ok)
		}
	}
	for size := 1; size < 8; size++ {
		if _, ok := new(wire.Writer).Fixed(1<<(8*size)-1, size).Done(); !ok {
			t.Errorf("the greatest of %d bytes does not fit", size)
		}
	}
}

func TestNilWriter(t *testing.T) { // P3.1
	var w *wire.Writer
	if w.Fixed(1, 1) != nil || w.Num(1) != nil || w.Bytes(nil) != nil || w.Text("a") != nil {
		t.Error("a nil Writer tells one")
	}
	if b, ok := w.Done(); len(b) != 0 || ok {
		t.Errorf("Done is %v, %v", b, ok)
	}
}

func TestWriterKeepsAndSharesNothing(t *testing.T) { // P3.3
	in := []byte{1, 2}
	w := new(wire.Writer).Bytes(in)
	in[0] = 9
	first := written(t, w)
	first[1] = 9
	if second := written(t, w); !bytes.Equal(second, []byte{4, 1, 2}) {
		t.Errorf("Done again is %v", second)
	}
	w.Num(0)
	if third := written(t, w); !bytes.Equal(third, []byte{4, 1, 2, 0}) || !bytes.Equal(first, []byte{4, 9, 2}) {
		t.Errorf("Done further on is %v, the first one %v", third, first)
	}
}

func TestReaderReadsWhatWasWritten(t *testing.T) { // P3.2, P3.3
	b := written(t, new(wire.Writer).Fixed(258, 2).Num(-70).Bytes([]byte{7, 8, 9}).Text("topic").Fixed(math.MaxInt, 8).Text("").Bytes(nil).Num(math.MinInt).Fixed(200, 1))
	r := wire.NewReader(append(b, 42))
	if r.Left() != len(b)+1 {
		t.Errorf("Left is %d", r.Left())
	}
	if n := r.Fixed(2); n != 258 {
		t.Errorf("Fixed is %d", n)
	}
	if r.Left() != len(b)-1 {
		t.Errorf("Left is %d behind two bytes", r.Left())
	}
	if n := r.Num(); n != -70 {
		t.Errorf("Num is %d", n)
	}
	if p := r.Bytes(3); !bytes.Equal(p, []byte{7, 8, 9}) {
		t.Errorf("Bytes is %v", p)
	}
	if s := r.Text(5); s != "topic" {
		t.Errorf("Text is %q", s)
	}
	if n := r.Fixed(8); n != math.MaxInt {
		t.Errorf("Fixed of 8 is %d", n)
	}
	if s := r.Text(0); s != "" {
		t.Errorf("an empty Text is %q", s)
	}
	if p := r.Bytes(0); len(p) != 0 {
		t.Errorf("empty Bytes are %v", p)
	}
	if n := r.Num(); n != math.MinInt {
		t.Errorf("Num is %d", n)
	}
	if n := r.Fixed(1); n != 200 || r.Err() != api.OK || r.Left() != 1 {
		t.Errorf("at last %d, %d, %d left", n, r.Err(), r.Left())
	}
}

// reads are the four reads, each told as a number that is 0 of nothing.
func reads() map[string]func(r *wire.Reader) int {
	return map[string]func(r *wire.Reader) int{
		"Fixed": func(r *wire.Reader) int { return r.Fixed(1) },
		"Num":   func(r *wire.Reader) int { return r.Num() },
		"Bytes": func(r *wire.Reader) int { return len(r.Bytes(100)) },
		"Text":  func(r *wire.Reader) int { return len(r.Text(100)) },
	}
}

func TestReaderRefuses(t *testing.T) { // P3.2
	fixed := func(size int) func(*wire.Reader) int { return func(r *wire.Reader) int { return r.Fixed(size) } }
	asBytes := func(most int) func(*wire.Reader) int { return func(r *wire.Reader) int { return len(r.Bytes(most)) } }
	asText := func(most int) func(*wire.Reader) int { return func(r *wire.Reader) int { return len(r.Text(most)) } }
	for _, c := range []struct {
		what string
		b    []byte
		read func(*wire.Reader) int
		want api.Errno
	}{
		{"Fixed of nothing", nil, fixed(1), api.ErrBad},
		{"Fixed of too little", []byte{1, 2}, fixed(3), api.ErrBad},
		{"Fixed(0)", []byte{1, 2}, fixed(0), api.ErrBad},
		{"Fixed(-1)", []byte{1, 2}, fixed(-1), api.ErrBad},
		{"Fixed(9)", make([]byte, 20), fixed(9), api.ErrBad},
		{"Fixed(huge)", make([]byte, 20), fixed(math.MaxInt), api.ErrBad},
		{"Fixed(8) too great", []byte{128, 0, 0, 0, 0, 0, 0, 0}, fixed(8), api.ErrBad},
		{"Num of nothing", nil, reads()["Num"], api.ErrBad},
		{"Num unended", []byte{128}, reads()["Num"], api.ErrBad},
		{"Num too long", []byte{128, 0}, reads()["Num"], api.ErrBad},
		{"Bytes of nothing", nil, asBytes(5), api.ErrBad},
		{"Bytes of too little", []byte{4, 1}, asBytes(5), api.ErrBad},
		{"Bytes of too little and too much", []byte{40, 1}, asBytes(5), api.ErrBad},
		{"Bytes of a length below 0", []byte{1, 1}, asBytes(5), api.ErrBad},
		{"Bytes of a bad length", []byte{128, 0}, asBytes(5), api.ErrBad},
		{"Bytes of more than most", []byte{4, 1, 2}, asBytes(1), api.ErrBig},
		{"Bytes of none, most below 0", []byte{0}, asBytes(-1), api.ErrBig},
		{"Text of nothing", nil, asText(5), api.ErrBad},
		{"Text of too little", []byte{4, 1}, asText(5), api.ErrBad},
		{"Text of a length below 0", []byte{3, 1}, asText(5), api.ErrBad},
		{"Text of more than most", []byte{4, 1, 2}, asText(1), api.ErrBig},
		{"Text of a length beyond all", append(num.Put(math.MaxInt), 1), asText(math.MaxInt), api.ErrBad},
	} {
		r := wire.NewReader(c.b)
		if got := c.read(r); got != 0 || r.Err() != c.want || r.Left() != 0 {
			t.Errorf("%s: %d, error %d, %d left", c.what, got, r.Err(), r.Left())
		}
	}
	if r := wire.NewReader([]byte{127, 255, 255, 255, 255, 255, 255, 255}); r.Fixed(8) != math.MaxInt || r.Err() != api.OK {
		t.Error("the greatest Fixed(8) is refused")
	}
}

func TestFirstErrorStays(t *testing.T) { // P3.2
	for what, read := range reads() {
		r := wire.NewReader([]byte{4, 2, 2, 2, 2, 2})
		r.Text(1)
		if got := read(r); got != 0 || r.Err() != api.ErrBig || r.Left() != 0 {
			t.Errorf("%s behind ErrBig: %d, %d", what, got, r.Err())
		}
		r = wire.NewReader([]byte{2, 2, 2})
		r.Fixed(4)
		if got := read(r); got != 0 || r.Err() != api.ErrBad || r.Left() != 0 {
			t.Errorf("%s behind ErrBad: %d, %d", what, got, r.Err())
		}
		r.Bytes(-1)
		for x := range r.Rest() {
			t.Errorf("Rest behind an error has %d", x)
		}
		if r.Err() != api.ErrBad {
			t.Errorf("the error is %d now", r.Err())
		}
	}
}

func rest(it func(func(byte) bool), most int) (l []byte) {
	for x := range it {
		if l = append(l, x); len(l) == most {
			break
		}
	}
	return l
}

func TestRestShowsWhatIsLeftAndLeavesIt(t *testing.T) { // P3.2
	r := wire.NewReader([]byte{1, 2, 3, 4})
	it := r.Rest()
	if got := rest(it, -1); !bytes.Equal(got, []byte{1, 2, 3, 4}) || r.Left() != 4 {
		t.Errorf("Rest is %v, %d left", got, r.Left())
	}
	if got := rest(it, 2); !bytes.Equal(got, []byte{1, 2}) {
		t.Errorf("Rest, left early, is %v", got)
	}
	r.Fixed(3)
	if got := rest(it, -1); !bytes.Equal(got, []byte{4}) {
		t.Errorf("Rest further on is %v", got)
	}
	if r.Fixed(1) != 4 || rest(it, -1) != nil {
		t.Error("Rest takes, or invents, bytes")
	}
}

func TestNilReader(t *testing.T) { // P3.2
	var r *wire.Reader
	for what, read := range reads() {
		if read(r) != 0 {
			t.Errorf("%s of a nil Reader", what)
		}
	}
	if r.Left() != 0 || r.Err() != api.ErrBad || rest(r.Rest(), -1) != nil {
		t.Error("a nil Reader has something")
	}
	if r := wire.NewReader(nil); r.Err() != api.OK || r.Left() != 0 {
		t.Error("a Reader of nothing has an error, or something")
	}
}

func TestReaderKeepsAndSharesNothing(t *testing.T) { // P3.3
	in := []byte{4, 1, 2, 4, 3, 4}
	r := wire.NewReader(in)
	in[1], in[3] = 9, 9
	p := r.Bytes(9)
	if !bytes.Equal(p, []byte{1, 2}) {
		t.Errorf("Bytes are %v", p)
	}
	_ = append(p, 77)
	if q := r.Bytes(9); !bytes.Equal(q, []byte{3, 4}) {
		t.Errorf("what lies behind an answer is changed: %v", q)
	}
	in = []byte{4, 1, 2, 7}
	r = wire.NewReader(in)
	r.Bytes(9)[0] = 50
	r.Fixed(1)
	if !slices.Equal(in, []byte{4, 1, 2, 7}) {
		t.Error("what was handed in is changed")
	}
}
