package batch_test

import (
	"bytes"
	"encoding/binary"
	"hash/crc32"
	"math"
	"slices"
	"testing"

	"cordwain/api"
	"cordwain/batch"
)

func rec(offset, time int, key, value string) api.Record {
	return api.Record{Offset: offset, Time: time, HasKey: true, Key: []byte(key), HasValue: true, Value: []byte(value)}
}

// good is a batch with records of each kind.
func good() api.Batch {
	return api.Batch{Base: 1000, Last: 1070, Producer: 7, Epoch: 3, Seq: 99, Records: []api.Record{
		rec(1000, 500, "k", "value"),
		{Offset: 1001, Time: 436, HasValue: true, Value: []byte("no key")},
		{Offset: 1064, Time: 900, HasKey: true, Key: []byte("gone")},
		{Offset: 1065, Time: 500},
		rec(1070, 0, "", ""),
	}}
}

// many is a batch of n records with values of so many bytes.
func many(n, value int) api.Batch {
	b := api.Batch{Last: max(n-1, 0)}
	for i := range n {
		b.Records = append(b.Records, api.Record{Offset: i, HasValue: true, Value: make([]byte, value)})
	}
	return b
}

// put is a number in few bytes, as chapter 1 says.
func put(n int) []byte {
	return binary.AppendVarint(nil, int64(n))
}

// head is a batch's head without its length and sum, as numbers.
type head struct{ base, last, first, producer, epoch, seq, count int }

// raw writes a batch by hand, whether it may be or not.
func raw(h head, bodies ...[]byte) []byte {
	summed := binary.BigEndian.AppendUint64(nil, uint64(h.last))
	summed = binary.BigEndian.AppendUint64(summed, uint64(h.first))
	summed = binary.BigEndian.AppendUint64(summed, uint64(h.producer))
	summed = binary.BigEndian.AppendUint16(summed, uint16(h.epoch))
	summed = binary.BigEndian.AppendUint32(summed, uint32(h.seq))
	summed = binary.BigEndian.AppendUint32(summed, uint32(h.count))
	for _, body := range bodies {
		summed = append(append(summed, put(len(body))...), body...)
	}
	p := binary.BigEndian.AppendUint64(nil, uint64(h.base))
	p = binary.BigEndian.AppendUint32(p, uint32(len(summed)+4))
	p = binary.BigEndian.AppendUint32(p, crc32.Checksum(summed, crc32.MakeTable(crc32.Castagnoli)))
	return append(p, summed...)
}

func join(l ...[]byte) []byte { return bytes.Join(l, nil) }

func encoded(t *testing.T, b api.Batch) []byte {
	t.Helper()
	p, e := batch.Encode(b)
	if e != api.OK {
		t.Fatalf("Encode is %d", e)
	}
	return p
}

func TestCheckOfHeads(t *testing.T) { // P5.1
	for _, c := range []struct {
		what string
		b    api.Batch
		want api.Errno
	}{
		{"nothing", api.Batch{}, api.OK},
		{"greatest", api.Batch{Base: 1 << 62, Last: 1 << 62, Producer: 1 << 40, Epoch: 32767, Seq: 1<<31 - 1}, api.OK},
		{"far", api.Batch{Last: 1 << 62}, api.OK},
		{"Base below 0", api.Batch{Base: -1}, api.ErrArg},
		{"Base above", api.Batch{Base: 1<<62 + 1, Last: 1<<62 + 1}, api.ErrArg},
		{"Last below Base", api.Batch{Base: 5, Last: 4}, api.ErrArg},
		{"Last above", api.Batch{Last: 1<<62 + 1}, api.ErrArg},
		{"Producer below 0", api.Batch{Producer: -1}, api.ErrArg},
		{"Producer above", api.Batch{Producer: 1<<40 + 1}, api.ErrArg},
		{"Epoch below 0", api.Batch{Producer: 1, Epoch: -1}, api.ErrArg},
		{"Epoch above", api.Batch{Producer: 1, Epoch: 32768}, api.ErrArg},
		{"Seq below 0", api.Batch{Producer: 1, Seq: -1}, api.ErrArg},
		{"Seq above", api.Batch{Producer: 1, Seq: 1 << 31}, api.ErrArg},
		{"Epoch of none", api.Batch{Epoch: 1}, api.ErrArg},
		{"Seq of none", api.Batch{Seq: 1}, api.ErrArg},
		{"a hundred", many(100, 3), api.OK},
		{"more than a hundred", many(101, 3), api.ErrBig},
		{"more than a hundred, no one good", api.Batch{Records: make([]api.Record, 101)}, api.ErrBig},
		{"a bad head ahead of too many", api.Batch{Base: -1, Records: make([]api.Record, 101)}, api.ErrArg},
		{"good", good(), api.OK},
	} {
		if got := batch.Check(c.b); got != c.want {
			t.Errorf("%s: %d, not %d", c.what, got, c.want)
		}
		if p, e := batch.Encode(c.b); e != c.want || (e != api.OK) != (p == nil) {
			t.Errorf("%s: Encode is %d bytes, %d", c.what, len(p), e)
		}
	}
}

func TestCheckOfRecords(t *testing.T) { // P5.1
	for _, c := range []struct {
		what string
		turn func(r *api.Record)
		want api.Errno
	}{
		{"nothing", func(r *api.Record) {}, api.OK},
		{"below Base", func(r *api.Record) { r.Offset = 9 }, api.ErrArg},
		{"as the one ahead", func(r *api.Record) { r.Offset = 10 }, api.ErrArg},
		{"above Last", func(r *api.Record) { r.Offset = 21 }, api.ErrArg},
		{"at Last", func(r *api.Record) { r.Offset = 20 }, api.OK},
		{"Time below 0", func(r *api.Record) { r.Time = -1 }, api.ErrArg},
		{"Time above", func(r *api.Record) { r.Time = 1<<50 + 1 }, api.ErrArg},
		{"Time at most", func(r *api.Record) { r.Time = 1 << 50 }, api.OK},
		{"a Key without HasKey", func(r *api.Record) { r.HasKey = false }, api.ErrArg},
		{"a Value without HasValue", func(r *api.Record) { r.HasValue = false }, api.ErrArg},
		{"neither", func(r *api.Record) { *r = api.Record{Offset: 15, Key: []byte{}, Value: []byte{}} }, api.OK},
		{"a long Key", func(r *api.Record) { r.Key = make([]byte, 200) }, api.OK},
		{"a longer Key", func(r *api.Record) { r.Key = make([]byte, 201) }, api.ErrBig},
		{"a long Value", func(r *api.Record) { r.Value = make([]byte, 2000) }, api.OK},
		{"a longer Value", func(r *api.Record) { r.Value = make([]byte, 2001) }, api.ErrBig},
		{"a longer Key, at a bad Time", func(r *api.Record) { r.Key, r.Time = make([]byte, 201), -1 }, api.ErrArg},
		{"a longer Key, without HasValue", func(r *api.Record) { r.Key, r.HasValue = make([]byte, 201), false }, api.ErrArg},
	} {
		b := api.Batch{Base: 10, Last: 20, Records: []api.Record{rec(10, 0, "a", "b"), rec(15, 3, "c", "d")}}
		c.turn(&b.Records[1])
		if got := batch.Check(b); got != c.want {
			t.Errorf("%s: %d, not %d", c.what, got, c.want)
		}
	}
	b := api.Batch{Last: 9, Records: []api.Record{rec(0, 0, string(make([]byte, 201)), ""), rec(0, -1, "", "")}}
	if got := batch.Check(b); got != api.ErrBig {
		t.Errorf("the first record's fault is not the first one told: %d", got)
	}
	b.Records[0] = rec(-1, 0, "", "")
	if got := batch.Check(b); got != api.ErrArg {
		t.Errorf("a first record below Base: %d", got)
	}
}

func TestCheckOfAllBytes(t *testing.T) { // P5.1
	b := many(33, 1975) // 50 and 33 times 1982 bytes
	if n := len(encoded(t, b)); n != 50+33*1982 {
		t.Fatalf("%d bytes", n)
	}
	spare := 1<<16 - 50 - 33*1982
	for i := range b.Records {
		more := min(spare, 25)
		b.Records[i].Value = make([]byte, 1975+more)
		spare -= more
	}
	if n := len(encoded(t, b)); n != 1<<16 || batch.Size(b) != 1<<16 {
		t.Fatalf("%d bytes", n)
	}
	if got, e := batch.Decode(encoded(t, b)); e != api.OK || !batch.Same(got, b) {
		t.Errorf("the greatest one is not read: %d", e)
	}
	i := len(b.Records) - 1
	b.Records[i].Value = append(b.Records[i].Value, 0)
	if p, e := batch.Encode(b); p != nil || e != api.ErrBig || batch.Check(b) != api.ErrBig || batch.Size(b) != 0 {
		t.Errorf("one byte more than may be: %d", e)
	}
}

func TestEncodeWritesTheFields(t *testing.T) { // P5.2
	want := raw(head{1000, 70, 500, 7, 3, 99, 5},
		join(put(0), put(0), put(1), []byte("k"), put(5), []byte("value")),
		join(put(-64), put(1), put(-1), put(6), []byte("no key")),
		join(put(400), put(64), put(4), []byte("gone"), put(-1)),
		join(put(0), put(65), put(-1), put(-1)),
		join(put(-500), put(70), put(0), put(0)))
	if got := encoded(t, good()); !bytes.Equal(got, want) {
		t.Errorf("Encode is\n%v, not\n%v", got, want)
	}
	if n := batch.Size(good()); n != len(want) {
		t.Errorf("Size is %d, not %d", n, len(want))
	}
	empty := encoded(t, api.Batch{Base: 1, Last: 3, Producer: 1 << 40, Epoch: 32767, Seq: 1<<31 - 1})
	if !bytes.Equal(empty, raw(head{1, 2, 0, 1 << 40, 32767, 1<<31 - 1, 0})) || len(empty) != batch.Head || batch.Head != 50 {
		t.Errorf("Encode without records is %v", empty)
	}
	if batch.Size(api.Batch{Base: -1}) != 0 || batch.Size(api.Batch{}) != 50 {
		t.Error("Size of a batch that may not be, or of none")
	}
}

func TestDecodeReadsWhatEncodeWrote(t *testing.T) { // P5.3, P5.4
	for i, b := range []api.Batch{{}, good(), many(100, 3), many(1, 2000), {Base: 1 << 62, Last: 1 << 62}, {Last: 1 << 62, Records: []api.Record{rec(0, 1<<50, "", ""), rec(1<<62, 0, "x", "y")}}} {
		p := encoded(t, b)
		got, e := batch.Decode(p)
		if e != api.OK || !batch.Same(got, b) || batch.Size(b) != len(p) {
			t.Errorf("%d: Decode is %v, %d", i, got, e)
		}
		got, used, e := batch.First(append(slices.Clone(p), 1, 2, 3))
		if e != api.OK || used != len(p) || !batch.Same(got, b) {
			t.Errorf("%d: First is %v, %d, %d", i, got, used, e)
		}
		if _, e := batch.Decode(append(slices.Clone(p), 0)); e != api.ErrBad {
			t.Errorf("%d: Decode of more is %d", i, e)
		}
	}
}

func none(t *testing.T, what string, p []byte) {
	t.Helper()
	if b, used, e := batch.First(p); e != api.ErrBad || used != 0 || !batch.Same(b, api.Batch{}) {
		t.Errorf("%s: First is %v, %d, %d", what, b, used, e)
	}
	if b, e := batch.Decode(p); e != api.ErrBad || !batch.Same(b, api.Batch{}) {
		t.Errorf("%s: Decode is %v, %d", what, b, e)
	}
	if batch.Good(p) != 0 {
		t.Errorf("%s: Good is %d", what, batch.Good(p))
	}
	for range batch.All(p) {
		t.Errorf("%s: All has one", what)
	}
}

func TestDecodeRefusesOtherBytes(t *testing.T) { // P5.3
	p := encoded(t, good())
	for i := range p {
		none(t, "a part", p[:i])
		for _, digit := range []byte{1, 128} {
			if i < 8 { // the sum is not of the Base
				continue
			}
			q := slices.Clone(p)
			q[i] ^= digit
			none(t, "another byte", q)
		}
	}
	one := head{0, 0, 5, 0, 0, 0, 1}
	body := join(put(0), put(0), put(-1), put(-1))
	if _, e := batch.Decode(raw(one, body)); e != api.OK {
		t.Fatal("the hand-written one is refused")
	}
	for what, q := range map[string][]byte{
		"nothing":                     nil,
		"a sum alone too short":       join(make([]byte, 8), []byte{0, 0, 0, 3}, make([]byte, 60)),
		"no fields":                   join(make([]byte, 11), []byte{4}, make([]byte, 4)),
		"a head too short":            raw(one)[:40],
		"a count of none":             raw(head{0, 0, 5, 0, 0, 0, 0}, body),
		"a count of more":             raw(head{0, 0, 5, 0, 0, 0, 2}, body),
		"a count far above":           raw(head{0, 0, 5, 0, 0, 0, math.MaxUint32}, body),
		"a first time of none":        raw(head{0, 0, 5, 0, 0, 0, 0}),
		"another first time":          raw(one, join(put(1), put(0), put(-1), put(-1))),
		"a first time above":          raw(head{0, 0, 1<<50 + 1, 0, 0, 0, 1}, body),
		"a first time far above":      raw(head{0, 0, math.MaxInt, 0, 0, 0, 1}, body),
		"a first time beyond":         raw(head{0, 0, -1, 0, 0, 0, 1}, body),
		"a time that goes round":      raw(head{0, 1, 5, 0, 0, 0, 2}, body, join(put(math.MaxInt), put(1), put(-1), put(-1))),
		"a time below 0":              raw(head{0, 1, 5, 0, 0, 0, 2}, body, join(put(-6), put(1), put(-1), put(-1))),
		"an offset above Last":        raw(one, join(put(0), put(1), put(-1), put(-1))),
		"an offset below Base":        raw(head{9, 0, 5, 0, 0, 0, 1}, join(put(0), put(-1), put(-1), put(-1))),
		"an offset twice":             raw(head{0, 1, 5, 0, 0, 0, 2}, body, body),
		"a key's length below -1":     raw(one, join(put(0), put(0), put(-2), put(-1))),
		"a value's length below -1":   raw(one, join(put(0), put(0), put(-1), put(-2))),
		"a key beyond the body":       raw(one, join(put(0), put(0), put(3), put(-1))),
		"a value beyond the body":     raw(one, join(put(0), put(0), put(-1), put(1))),
		"bytes behind the value":      raw(one, join(body, []byte{0})),
		"a body too short":            raw(one, join(put(0), put(0), put(-1))),
		"a body of a time alone":      raw(one, put(0)),
		"a body of nothing":           raw(one, nil),
		"a number not the shortest":   raw(one, join([]byte{128, 0}, put(0), put(-1), put(-1))),
		"a body's length below 0":     raw(head{0, 0, 5, 0, 0, 0, 1})[:50],
		"a long key":                  raw(one, join(put(0), put(0), put(201), make([]byte, 201), put(-1))),
		"a long value":                raw(one, join(put(0), put(0), put(-1), put(2001), make([]byte, 2001))),
		"Base beyond":                 raw(head{1<<62 + 1, 0, 0, 0, 0, 0, 0}),
		"Base below 0":                raw(head{-1, 0, 0, 0, 0, 0, 0}),
		"Last beyond":                 raw(head{1 << 62, 1, 0, 0, 0, 0, 0}),
		"Last that goes round":        raw(head{1 << 62, math.MaxInt, 0, 0, 0, 0, 0}),
		"Producer beyond":             raw(head{0, 0, 0, 1<<40 + 1, 0, 0, 0}),
		"Epoch beyond":                raw(head{0, 0, 0, 1, 32768, 0, 0}),
		"Seq beyond":                  raw(head{0, 0, 0, 1, 0, 1 << 31, 0}),
		"Epoch of no producer":        raw(head{0, 0, 0, 0, 1, 0, 0}),
		"a length of more":            join(make([]byte, 8), []byte{0, 0, 0, 200}, make([]byte, 60)),
		"a length of more than it is": join(make([]byte, 8), []byte{255, 255, 255, 255}, make([]byte, 60)),
	} {
		none(t, what, q)
	}
	if _, e := batch.Decode(raw(head{0, 0, 5, 0, 0, 0, 1}, join(put(0), put(0), put(-1), put(-1)))); e != api.OK {
		t.Error("a good one is refused")
	}
	big := many(33, 2000)
	var bodies [][]byte
	for _, r := range big.Records {
		bodies = append(bodies, join(put(0), put(r.Offset), put(-1), put(2000), r.Value))
	}
	none(t, "more bytes than may be", raw(head{0, 32, 0, 0, 0, 0, 33}, bodies...))
	low := raw(one, body)
	none(t, "a record's length below 0", raw(head{0, 0, 5, 0, 0, 0, 1}, body)[:len(low)-len(body)-1])
}

func TestRecordLengthBelowNought(t *testing.T) { // P5.3
	for _, long := range []int{-1, -5, math.MinInt, 3, 5, math.MaxInt} {
		summed := raw(head{0, 0, 5, 0, 0, 0, 1})[16:]
		summed = join(summed, put(long), put(0), put(0), put(-1), put(-1))
		p := join(make([]byte, 8), binary.BigEndian.AppendUint32(nil, uint32(len(summed)+4)), binary.BigEndian.AppendUint32(nil, crc32.Checksum(summed, crc32.MakeTable(crc32.Castagnoli))), summed)
		none(t, "a record's length that is none", p)
	}
}

func TestGoodAndAllEndAtTheFirstThatIsNone(t *testing.T) { // P5.3
	a := encoded(t, api.Batch{Base: 0, Last: 4})
	b := encoded(t, good())
	c := encoded(t, api.Batch{Base: 1071, Last: 1071, Records: []api.Record{rec(1071, 1, "x", "")}})
	low := encoded(t, api.Batch{Base: 1070, Last: 2000})
	spoilt := slices.Clone(b)
	spoilt[len(spoilt)-1] ^= 1
	for _, x := range []struct {
		what  string
		p     []byte
		bases []int
		good  int
	}{
		{"none", nil, nil, 0},
		{"three", join(a, b, c), []int{0, 1000, 1071}, len(a) + len(b) + len(c)},
		{"a part of one", join(a, b, c[:len(c)-1]), []int{0, 1000}, len(a) + len(b)},
		{"a Base at the Last ahead", join(a, b, low, c), []int{0, 1000}, len(a) + len(b)},
		{"one twice", join(c, c), []int{1071}, len(c)},
		{"a spoilt one", join(a, spoilt, c), []int{0}, len(a)},
		{"a spoilt one first", join(spoilt, a), nil, 0},
	} {
		var bases []int
		at := 0
		for place, one := range batch.All(x.p) {
			if place != at {
				t.Errorf("%s: a batch at %d, not %d", x.what, place, at)
			}
			at += batch.Size(one)
			bases = append(bases, one.Base)
		}
		if !slices.Equal(bases, x.bases) || batch.Good(x.p) != x.good {
			t.Errorf("%s: bases %v, Good %d", x.what, bases, batch.Good(x.p))
		}
	}
	it := batch.All(join(a, b, c))
	for range 2 {
		seen := 0
		for _, one := range it {
			if seen++; one.Base == 1000 {
				break
			}
		}
		if seen != 2 {
			t.Errorf("a walk that is left at the second one has seen %d", seen)
		}
	}
}

func TestTimes(t *testing.T) { // P5.3
	for _, c := range []struct {
		times       []int
		first, most int
	}{
		{nil, 0, 0}, {[]int{5}, 5, 5}, {[]int{5, 3, 9, 8}, 5, 9}, {[]int{7, 7}, 7, 7}, {[]int{9, 1}, 9, 9}, {[]int{-5, -9}, -5, -5},
	} {
		var b api.Batch
		for _, time := range c.times {
			b.Records = append(b.Records, api.Record{Time: time})
		}
		if first, most := batch.Times(b); first != c.first || most != c.most {
			t.Errorf("Times of %v is %d, %d", c.times, first, most)
		}
	}
}

func TestSameAsksAllFields(t *testing.T) { // P5.3
	if !batch.Same(good(), good()) || !batch.Same(api.Batch{}, api.Batch{Records: []api.Record{}}) {
		t.Error("two that are alike are not the same")
	}
	nils := good()
	nils.Records[4].Key, nils.Records[4].Value = nil, nil
	if !batch.Same(good(), nils) {
		t.Error("nil and an empty list are not the same")
	}
	for i, turn := range []func(b *api.Batch){
		func(b *api.Batch) { b.Base++ }, func(b *api.Batch) { b.Last++ }, func(b *api.Batch) { b.Producer++ }, func(b *api.Batch) { b.Epoch++ }, func(b *api.Batch) { b.Seq++ },
		func(b *api.Batch) { b.Records = b.Records[:4] },
		func(b *api.Batch) { b.Records = append(b.Records, api.Record{}) },
		func(b *api.Batch) { b.Records[3].Offset++ }, func(b *api.Batch) { b.Records[0].Time++ },
		func(b *api.Batch) { b.Records[4].HasKey = false }, func(b *api.Batch) { b.Records[4].HasValue = false },
		func(b *api.Batch) { b.Records[0].Key = []byte("K") }, func(b *api.Batch) { b.Records[0].Value = []byte("valuE") },
	} {
		b := good()
		turn(&b)
		if batch.Same(good(), b) || batch.Same(b, good()) {
			t.Errorf("the same in spite of turn %d", i)
		}
	}
}

func TestBatchKeepsAndSharesNothing(t *testing.T) { // P5.4
	b := good()
	p := encoded(t, b)
	if !batch.Same(b, good()) {
		t.Error("Encode changes what is handed in")
	}
	p[0] ^= 1
	p = encoded(t, b)
	kept := slices.Clone(p)
	it := batch.All(p)
	got, _ := batch.Decode(p)
	clear(p)
	if !batch.Same(got, b) {
		t.Error("Decode shares what is handed in")
	}
	for range 2 {
		n := 0
		for _, one := range it {
			n++
			if !batch.Same(one, b) {
				t.Error("All shares what is handed in, or what it answered")
			}
			clear(one.Records[0].Value)
			one.Records[1].Offset = 0
		}
		if n != 1 {
			t.Error("All keeps what is handed in")
		}
	}
	got.Records[0].Key[0] = 'X'
	_ = append(got.Records[0].Key, "YYYYYYY"...)
	if again, _ := batch.Decode(kept); !batch.Same(again, b) || string(got.Records[0].Value) != "value" {
		t.Error("two answers share memory")
	}
}
