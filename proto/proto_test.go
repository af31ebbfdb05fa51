package proto_test

import (
	"bytes"
	"encoding/binary"
	"fmt"
	"math"
	"slices"
	"strings"
	"testing"

	"cordwain/api"
	"cordwain/proto"
)

// request is one with all fields.
func request() api.Request {
	return api.Request{Kind: 12, Corr: 258, Client: "c", Topic: "topic", Part: 70, Offset: -1, Time: 1 << 50, Max: math.MinInt, Group: "g", Member: "m1", Gen: 3, Names: []string{"x", "", "yz"}, Data: []byte{9, 8, 7}}
}

// response is one with all fields.
func response() api.Response {
	return api.Response{Corr: 258, Code: 770, Offset: -1, Last: 1 << 62, Gen: 3, Member: "m1", Leader: "l", Names: []string{"x", "", "yz"}, Nums: []int{7, -7}, Data: []byte{9, 8, 7}}
}

func put(n int) []byte { return binary.AppendVarint(nil, int64(n)) }

func text(s string) []byte { return append(put(len(s)), s...) }

func written(t *testing.T, r api.Request) []byte {
	t.Helper()
	b, e := proto.Encode(r)
	if e != api.OK {
		t.Fatalf("Encode is %d", e)
	}
	return b
}

func answered(t *testing.T, r api.Response) []byte {
	t.Helper()
	b, e := proto.Answer(r)
	if e != api.OK {
		t.Fatalf("Answer is %d", e)
	}
	return b
}

func greatest() api.Request {
	long := strings.Repeat("q", 100)
	return api.Request{Kind: 14, Corr: math.MaxInt32, Client: long, Topic: long, Group: long, Member: long, Names: slices.Repeat([]string{long}, 30), Data: make([]byte, 1<<16)}
}

func greatestResponse() api.Response {
	long := strings.Repeat("q", 100)
	return api.Response{Corr: math.MaxInt32, Code: 65535, Member: long, Leader: long, Names: slices.Repeat([]string{long}, 1000), Nums: make([]int, 1000), Data: make([]byte, 1<<17)}
}

func TestEncodeWritesTheFields(t *testing.T) { // P20.1
	want := slices.Concat([]byte{0, 12, 0, 0, 1, 2}, text("c"), text("topic"), put(70), put(-1), put(1<<50), put(math.MinInt), text("g"), text("m1"), put(3), put(3), text("x"), text(""), text("yz"), put(3), []byte{9, 8, 7})
	if got := written(t, request()); !bytes.Equal(got, want) {
		t.Errorf("Encode is %v, not %v", got, want)
	}
	want = append([]byte{0, 1, 0, 0, 0, 0}, make([]byte, 11)...)
	if got := written(t, api.Request{Kind: 1}); !bytes.Equal(got, want) {
		t.Errorf("Encode of nothing is %v, not %v", got, want)
	}
}

func TestEncodeRefuses(t *testing.T) { // P20.1
	more := strings.Repeat("q", 101)
	for i, c := range []struct {
		turn func(r *api.Request)
		want api.Errno
	}{
		{func(r *api.Request) {}, api.OK}, {func(r *api.Request) { *r = greatest() }, api.OK},
		{func(r *api.Request) { r.Kind = 0 }, api.ErrKind}, {func(r *api.Request) { r.Kind = 15 }, api.ErrKind}, {func(r *api.Request) { r.Kind = -1 }, api.ErrKind},
		{func(r *api.Request) { r.Corr = -1 }, api.ErrArg}, {func(r *api.Request) { r.Corr = 1 << 31 }, api.ErrArg},
		{func(r *api.Request) { r.Client = more }, api.ErrBig}, {func(r *api.Request) { r.Topic = more }, api.ErrBig}, {func(r *api.Request) { r.Group = more }, api.ErrBig}, {func(r *api.Request) { r.Member = more }, api.ErrBig},
		{func(r *api.Request) { r.Names = make([]string, 31) }, api.ErrBig}, {func(r *api.Request) { r.Names[2] = more }, api.ErrBig}, {func(r *api.Request) { r.Data = make([]byte, 1<<16+1) }, api.ErrBig},
		{func(r *api.Request) { r.Kind, r.Corr = 0, -1 }, api.ErrKind}, {func(r *api.Request) { r.Corr, r.Client = -1, more }, api.ErrArg},
	} {
		r := request()
		c.turn(&r)
		if b, e := proto.Encode(r); e != c.want || (b == nil) != (e != api.OK) {
			t.Errorf("%d: %d, not %d", i, e, c.want)
		}
	}
}

func decodes(t *testing.T, what string, b []byte, want api.Request, corr int, e api.Errno) {
	t.Helper()
	r, c, err := proto.Decode(b)
	if !proto.Same(r, want) || c != corr || err != e {
		t.Errorf("%s: %v, %d, %d, not %d, %d", what, r, c, err, corr, e)
	}
}

func TestDecodeReadsWhatEncodeWrote(t *testing.T) { // P20.1, P20.4
	for kind := 1; kind <= api.RKinds; kind++ {
		r := request()
		r.Kind = kind
		decodes(t, "all fields", written(t, r), r, 258, api.OK)
		decodes(t, "no fields", written(t, api.Request{Kind: kind}), api.Request{Kind: kind}, 0, api.OK)
	}
	decodes(t, "the greatest", written(t, greatest()), greatest(), math.MaxInt32, api.OK)
}

func TestDecodeRefuses(t *testing.T) { // P20.1
	b := written(t, request())
	for i := range b {
		corr := 258
		if i < 6 {
			corr = 0
		}
		decodes(t, fmt.Sprint(i, " bytes"), b[:i], api.Request{}, corr, api.ErrBad)
	}
	front := func(kind, corr int) []byte {
		return binary.BigEndian.AppendUint32(binary.BigEndian.AppendUint16(nil, uint16(kind)), uint32(corr))
	}
	with := func(l ...[]byte) []byte { return slices.Concat(append([][]byte{front(1, 5)}, l...)...) }
	zeros := func(n int) []byte { return make([]byte, n) }
	for _, c := range []struct {
		what string
		b    []byte
		corr int
		want api.Errno
	}{
		{"nothing", nil, 0, api.ErrBad},
		{"a Kind of none", front(0, 7), 7, api.ErrKind},
		{"a Kind above", append(front(15, 7), b[6:]...), 7, api.ErrKind},
		{"a Kind far above", front(65535, 7), 7, api.ErrKind},
		{"Corr at most", front(1, math.MaxInt32), math.MaxInt32, api.ErrBad},
		{"Corr above", append(front(12, 1<<31), b[6:]...), 0, api.ErrBad},
		{"Corr far above, a Kind of none", front(0, math.MaxUint32), 0, api.ErrKind},
		{"a great frame", append(slices.Clone(b), zeros(1<<17)...), 258, api.ErrBig},
		{"a great frame of no kind", append(front(0, 9), zeros(1<<17)...), 9, api.ErrBig},
		{"a great frame, Corr above", append(front(1, 1<<31), zeros(1<<17)...), 0, api.ErrBig},
		{"the greatest frame", append(front(1, 5), zeros(1<<17-6)...), 5, api.ErrBad},
		{"more behind it", append(slices.Clone(b), 0), 258, api.ErrBad},
		{"a long Client", with(text(strings.Repeat("q", 101)), zeros(10)), 5, api.ErrBig},
		{"a long Topic", with(zeros(1), text(strings.Repeat("q", 101)), zeros(9)), 5, api.ErrBig},
		{"a long Group", with(zeros(6), text(strings.Repeat("q", 101)), zeros(4)), 5, api.ErrBig},
		{"a long Member", with(zeros(7), text(strings.Repeat("q", 101)), zeros(3)), 5, api.ErrBig},
		{"a long Name", with(zeros(9), put(1), text(strings.Repeat("q", 101)), zeros(1)), 5, api.ErrBig},
		{"a long Name, and bad Data", with(zeros(9), put(1), text(strings.Repeat("q", 101)), put(-1)), 5, api.ErrBig},
		{"many Names", with(zeros(9), put(31), zeros(31), zeros(1)), 5, api.ErrBad},
		{"fewer Names than none", with(zeros(9), put(-1), zeros(1)), 5, api.ErrBad},
		{"a bad number, and many Names", with(zeros(8), []byte{128, 0}, put(31), zeros(32)), 5, api.ErrBad},
		{"a long Client, and many Names", with(text(strings.Repeat("q", 101)), zeros(8), put(31), zeros(32)), 5, api.ErrBig},
		{"more Names than there are", with(zeros(9), put(3), zeros(2)), 5, api.ErrBad},
		{"long Data", with(zeros(10), put(1<<16+1), zeros(1<<16+1)), 5, api.ErrBig},
		{"Data that is not all there", with(zeros(10), put(1<<16+1), zeros(1<<16)), 5, api.ErrBad},
		{"a number not the shortest", with(zeros(2), []byte{128, 0}, zeros(8)), 5, api.ErrBad},
	} {
		decodes(t, c.what, c.b, api.Request{}, c.corr, c.want)
	}
	if _, _, e := proto.Decode(with(zeros(9), put(30), zeros(30), zeros(1))); e != api.OK {
		t.Errorf("thirty Names are %d", e)
	}
}

func TestAnswerWritesTheFields(t *testing.T) { // P20.2
	want := slices.Concat([]byte{0, 0, 1, 2, 3, 2}, put(-1), put(1<<62), put(3), text("m1"), text("l"), put(3), text("x"), text(""), text("yz"), put(2), put(7), put(-7), put(3), []byte{9, 8, 7})
	if got := answered(t, response()); !bytes.Equal(got, want) {
		t.Errorf("Answer is %v, not %v", got, want)
	}
	if got := answered(t, api.Response{}); !bytes.Equal(got, make([]byte, 14)) {
		t.Errorf("Answer of nothing is %v", got)
	}
}

func TestAnswerRefuses(t *testing.T) { // P20.2
	more := strings.Repeat("q", 101)
	for i, c := range []struct {
		turn func(r *api.Response)
		want api.Errno
	}{
		{func(r *api.Response) {}, api.OK}, {func(r *api.Response) { *r = greatestResponse() }, api.OK},
		{func(r *api.Response) { r.Corr = -1 }, api.ErrArg}, {func(r *api.Response) { r.Corr = 1 << 31 }, api.ErrArg}, {func(r *api.Response) { r.Code = -1 }, api.ErrArg}, {func(r *api.Response) { r.Code = 65536 }, api.ErrArg},
		{func(r *api.Response) { r.Member = more }, api.ErrBig}, {func(r *api.Response) { r.Leader = more }, api.ErrBig}, {func(r *api.Response) { r.Names = make([]string, 1001) }, api.ErrBig}, {func(r *api.Response) { r.Names[1] = more }, api.ErrBig}, {func(r *api.Response) { r.Nums = make([]int, 1001) }, api.ErrBig}, {func(r *api.Response) { r.Data = make([]byte, 1<<17+1) }, api.ErrBig},
		{func(r *api.Response) { r.Code, r.Member = -1, more }, api.ErrArg},
	} {
		r := response()
		c.turn(&r)
		if b, e := proto.Answer(r); e != c.want || (b == nil) != (e != api.OK) {
			t.Errorf("%d: %d, not %d", i, e, c.want)
		}
	}
}

func TestReadReadsWhatAnswerWrote(t *testing.T) { // P20.2, P20.4
	for i, r := range []api.Response{{}, response(), greatestResponse(), {Code: 13}} {
		b := answered(t, r)
		if got, e := proto.Read(b); !proto.Alike(got, r) || e != api.OK {
			t.Errorf("%d: Read is %v, %d", i, got, e)
		}
		for _, other := range [][]byte{nil, b[:len(b)-1], append(slices.Clone(b), 0), append([]byte{128}, b[1:]...)} {
			if got, e := proto.Read(other); !proto.Alike(got, api.Response{}) || e != api.ErrBad {
				t.Errorf("%d: Read of others is %d", i, e)
			}
		}
	}
	b := answered(t, response())
	for i := range b {
		if got, e := proto.Read(b[:i]); !proto.Alike(got, api.Response{}) || e != api.ErrBad {
			t.Errorf("Read of %d bytes is %d", i, e)
		}
	}
	zeros := func(n int) []byte { return make([]byte, n) }
	long := text(strings.Repeat("q", 101))
	for what, b := range map[string][]byte{
		"a long Member":            slices.Concat(zeros(9), long, zeros(4)),
		"a long Leader":            slices.Concat(zeros(10), long, zeros(3)),
		"many Names":               slices.Concat(zeros(11), put(1001), zeros(1001), zeros(2)),
		"fewer Names than none":    slices.Concat(zeros(11), put(-1), zeros(2)),
		"a long Name":              slices.Concat(zeros(11), put(1), long, zeros(2)),
		"many Nums":                slices.Concat(zeros(12), put(1001), zeros(1001), zeros(1)),
		"fewer Nums than none":     slices.Concat(zeros(12), put(-1), zeros(1)),
		"more Nums than there are": slices.Concat(zeros(12), put(9), zeros(9)),
		"long Data":                slices.Concat(zeros(13), put(1<<17+1), zeros(1<<17+1)),
		"a long number":            slices.Concat(zeros(6), []byte{128, 0}, zeros(7)),
	} {
		if got, e := proto.Read(b); !proto.Alike(got, api.Response{}) || e != api.ErrBad {
			t.Errorf("%s: %d", what, e)
		}
	}
}

func frames(it func(func([]byte) bool), most int) (l []string) {
	for frame := range it {
		if l = append(l, string(frame)); len(l) == most {
			break
		}
	}
	return l
}

func TestFrames(t *testing.T) { // P20.3
	great := string(make([]byte, 1<<17))
	all := []string{"abc", "", "d", great, "e"}
	var l [][]byte
	for _, s := range all {
		l = append(l, []byte(s))
	}
	b, e := proto.Join(l...)
	if e != api.OK || !bytes.HasPrefix(b, []byte("\x00\x00\x00\x03abc\x00\x00\x00\x00\x00\x00\x00\x01d\x00\x02\x00\x00")) || len(b) != 20+5+1<<17 {
		t.Errorf("Join is %d bytes, %d", len(b), e)
	}
	if got := frames(proto.Frames(b), -1); !slices.Equal(got, all) {
		t.Errorf("Frames are %d", len(got))
	}
	if got := frames(proto.Frames(b), 2); !slices.Equal(got, all[:2]) {
		t.Errorf("Frames, left early, are %q", got)
	}
	for cut, want := range map[int]int{0: 0, 3: 0, 4: 0, 6: 0, 7: 1, 10: 1, 11: 2, 15: 2, 16: 3, 17: 3, len(b) - 6: 3, len(b) - 5: 4, len(b) - 1: 4} {
		if got := frames(proto.Frames(b[:cut]), -1); !slices.Equal(got, all[:want]) {
			t.Errorf("Frames of %d bytes are %d, not %d", cut, len(got), want)
		}
	}
	long := slices.Concat([]byte("\x00\x00\x00\x01a\x00\x02\x00\x01"), make([]byte, 1<<17+1), []byte("\x00\x00\x00\x01b"))
	if got := frames(proto.Frames(long), -1); !slices.Equal(got, []string{"a"}) {
		t.Errorf("Frames up to one that is too long are %d", len(got))
	}
	if got := frames(proto.Frames([]byte("\xff\xff\xff\xff\x00")), -1); got != nil {
		t.Errorf("Frames of a great length are %q", got)
	}
	if b, e := proto.Join([]byte("a"), make([]byte, 1<<17+1)); b != nil || e != api.ErrBig {
		t.Errorf("Join of one that is too long is %d", e)
	}
	if b, e := proto.Join(); len(b) != 0 || e != api.OK {
		t.Errorf("Join of none is %v, %d", b, e)
	}
}

func TestSameAndAlikeAskAllFields(t *testing.T) { // P20.3
	for i, turn := range []func(r *api.Request){
		func(r *api.Request) { r.Kind++ }, func(r *api.Request) { r.Corr++ }, func(r *api.Request) { r.Client += "x" }, func(r *api.Request) { r.Topic += "x" }, func(r *api.Request) { r.Part++ }, func(r *api.Request) { r.Offset++ }, func(r *api.Request) { r.Time++ }, func(r *api.Request) { r.Max++ }, func(r *api.Request) { r.Group += "x" }, func(r *api.Request) { r.Member += "x" }, func(r *api.Request) { r.Gen++ }, func(r *api.Request) { r.Names[1] = "x" }, func(r *api.Request) { r.Names = r.Names[:2] }, func(r *api.Request) { r.Data[2]++ }, func(r *api.Request) { r.Data = append(r.Data, 0) },
	} {
		r := request()
		turn(&r)
		if proto.Same(r, request()) || proto.Same(request(), r) {
			t.Errorf("the same in spite of turn %d", i)
		}
	}
	for i, turn := range []func(r *api.Response){
		func(r *api.Response) { r.Corr++ }, func(r *api.Response) { r.Code++ }, func(r *api.Response) { r.Offset++ }, func(r *api.Response) { r.Last++ }, func(r *api.Response) { r.Gen++ }, func(r *api.Response) { r.Member += "x" }, func(r *api.Response) { r.Leader += "x" }, func(r *api.Response) { r.Names[1] = "x" }, func(r *api.Response) { r.Names = r.Names[:2] }, func(r *api.Response) { r.Nums[1]++ }, func(r *api.Response) { r.Nums = append(r.Nums, 0) }, func(r *api.Response) { r.Data[2]++ }, func(r *api.Response) { r.Data = nil },
	} {
		r := response()
		turn(&r)
		if proto.Alike(r, response()) || proto.Alike(response(), r) {
			t.Errorf("alike in spite of turn %d", i)
		}
	}
	if !proto.Same(request(), request()) || !proto.Alike(response(), response()) || !proto.Same(api.Request{}, api.Request{Names: []string{}, Data: []byte{}}) || !proto.Alike(api.Response{}, api.Response{Names: []string{}, Nums: []int{}, Data: []byte{}}) {
		t.Error("two that are alike are not")
	}
}

func TestProtoKeepsAndSharesNothing(t *testing.T) { // P20.4
	b := written(t, request())
	r, _, _ := proto.Decode(b)
	a := answered(t, response())
	x, _ := proto.Read(a)
	l := []byte("\x00\x00\x00\x02ab\x00\x00\x00\x02cd")
	it := proto.Frames(l)
	clear(b)
	clear(a)
	clear(l)
	if !proto.Same(r, request()) || !proto.Alike(x, response()) {
		t.Error("what was handed in is kept")
	}
	for range 2 {
		var got []string
		for frame := range it {
			got = append(got, string(frame))
			_ = append(frame, "zzzzzz"...)
			clear(frame)
		}
		if !slices.Equal(got, []string{"ab", "cd"}) {
			t.Errorf("Frames are %q", got)
		}
	}
}
