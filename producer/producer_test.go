package producer_test

import (
	"bytes"
	"encoding/binary"
	"math"
	"slices"
	"testing"

	"cordwain/api"
	"cordwain/producer"
)

// of is a batch of a producer with so many records.
func of(id, epoch, seq, count, base int) api.Batch {
	return api.Batch{Base: base, Last: base + count, Producer: id, Epoch: epoch, Seq: seq, Records: make([]api.Record, count)}
}

func added(t *testing.T, l ...api.Batch) *producer.Table {
	t.Helper()
	table := producer.New()
	for _, b := range l {
		if e := table.Add(b); e != api.OK {
			t.Fatalf("Add of %d, %d is %d", b.Producer, b.Seq, e)
		}
	}
	return table
}

// checks asks Check, and Add on a copy, which must agree, but of a batch without
// records that Check lets pass: Add refuses that.
func checks(t *testing.T, what string, table *producer.Table, b api.Batch, base int, dup bool, e api.Errno) {
	t.Helper()
	gotBase, gotDup, got := table.Check(b)
	if gotBase != base || gotDup != dup || got != e {
		t.Errorf("%s: Check is %d, %v, %d", what, gotBase, gotDup, got)
	}
	switch {
	case dup:
		e = api.ErrDup
	case e == api.OK && b.Producer > 0 && len(b.Records) == 0:
		e = api.ErrSeq
	}
	other := table.Copy()
	if got := other.Add(b); got != e {
		t.Errorf("%s: Add is %d, not %d", what, got, e)
	}
	if e != api.OK && !producer.Same(other, table) {
		t.Errorf("%s: Add that is refused changes the table", what)
	}
}

func TestCheckOfAProducerThatIsNotKnown(t *testing.T) { // P10.1
	for what, table := range map[string]*producer.Table{"a new table": producer.New(), "of others": added(t, of(2, 0, 0, 3, 0))} {
		checks(t, what, table, of(1, 0, 0, 3, 9), 0, false, api.OK)
		checks(t, what, table, of(1, 7, 0, 1, 9), 0, false, api.OK)
		checks(t, what, table, of(1, 0, 1, 3, 9), 0, false, api.ErrSeq)
		checks(t, what, table, of(1, 0, 3, 3, 9), 0, false, api.ErrSeq)
		checks(t, what, table, of(1, 0, -1, 3, 9), 0, false, api.ErrSeq)
	}
}

func TestCheckOfNoProducer(t *testing.T) { // P10.1
	table := added(t, of(1, 3, 0, 2, 0))
	for _, id := range []int{0, -1, math.MinInt} {
		for _, count := range []int{0, 4} {
			b := of(id, 1, 77, count, 5)
			checks(t, "no producer", table, b, 0, false, api.OK)
			if e := table.Add(b); e != api.OK {
				t.Errorf("Add is %d", e)
			}
		}
	}
	if !producer.Same(table, added(t, of(1, 3, 0, 2, 0))) || !slices.Equal(table.Known(), []int{1}) {
		t.Error("something is kept of no producer")
	}
}

func TestCheckOfEpochs(t *testing.T) { // P10.1
	table := added(t, of(1, 3, 0, 2, 50))
	for _, b := range []api.Batch{of(1, 2, 2, 1, 60), of(1, 0, 0, 2, 50), of(1, -1, 0, 1, 60)} {
		checks(t, "an epoch below", table, b, 0, false, api.ErrEpoch)
	}
	checks(t, "an epoch above, not from the beginning", table, of(1, 4, 2, 1, 60), 0, false, api.ErrSeq)
	checks(t, "an epoch above", table, of(1, 4, 0, 2, 60), 0, false, api.OK)
	checks(t, "an epoch far above", table, of(1, 900, 0, 2, 60), 0, false, api.OK)
	if e := table.Add(of(1, 4, 0, 5, 60)); e != api.OK {
		t.Fatal(e)
	}
	checks(t, "an epoch that was its own", table, of(1, 3, 0, 2, 50), 0, false, api.ErrEpoch)
	checks(t, "its first of the new epoch, again", table, of(1, 4, 0, 5, 60), 60, true, api.OK)
	checks(t, "the first of the old epoch, in the new one", table, of(1, 4, 0, 2, 50), 0, false, api.ErrDup)
	if epoch, seq, ok := table.Next(1); epoch != 4 || seq != 5 || !ok {
		t.Errorf("Next is %d, %d, %v", epoch, seq, ok)
	}
}

func TestCheckOfNumbers(t *testing.T) { // P10.1, P10.3
	table := added(t, of(1, 3, 0, 3, 100), of(1, 3, 3, 1, 110), of(1, 3, 4, 2, 120))
	checks(t, "the next one", table, of(1, 3, 6, 9, 0), 0, false, api.OK)
	checks(t, "the first one again", table, of(1, 3, 0, 3, 7), 100, true, api.OK)
	checks(t, "the second one again", table, of(1, 3, 3, 1, 7), 110, true, api.OK)
	checks(t, "the last one again", table, of(1, 3, 4, 2, 7), 120, true, api.OK)
	for _, b := range []api.Batch{of(1, 3, 0, 2, 7), of(1, 3, 0, 4, 7), of(1, 3, 1, 3, 7), of(1, 3, 5, 1, 7), of(1, 3, -1, 1, 7), of(1, 3, 4, 1, 7)} {
		checks(t, "a part of what came", table, b, 0, false, api.ErrDup)
	}
	for _, seq := range []int{7, 8, 1000, math.MaxInt} {
		checks(t, "a gap", table, of(1, 3, seq, 1, 7), 0, false, api.ErrSeq)
	}
	checks(t, "another producer", table, of(2, 3, 0, 3, 7), 0, false, api.OK)
}

func TestBatchesWithoutRecords(t *testing.T) { // P10.1
	table := producer.New()
	checks(t, "not known", table, of(1, 0, 0, 0, 9), 0, false, api.OK)
	checks(t, "not known, of some epoch", table, of(1, 7, 0, 0, 9), 0, false, api.OK)
	for _, seq := range []int{-1, 1, 4} {
		checks(t, "not known, not from the beginning", table, of(1, 0, seq, 0, 9), 0, false, api.ErrSeq)
	}
	table = added(t, of(2, 3, 0, 1, 0), of(1, 3, 0, 3, 100), of(1, 3, 3, 1, 110))
	checks(t, "the next one", table, of(1, 3, 4, 0, 7), 0, false, api.OK)
	for _, seq := range []int{math.MinInt, -1, 0, 1, 3} {
		checks(t, "below the next one", table, of(1, 3, seq, 0, 7), 0, false, api.ErrDup)
	}
	for _, seq := range []int{5, 6, math.MaxInt} {
		checks(t, "a gap", table, of(1, 3, seq, 0, 7), 0, false, api.ErrSeq)
	}
	for _, seq := range []int{0, 4} {
		checks(t, "an epoch below", table, of(1, 2, seq, 0, 7), 0, false, api.ErrEpoch)
	}
	checks(t, "an epoch above", table, of(1, 4, 0, 0, 7), 0, false, api.OK)
	checks(t, "an epoch above, not from the beginning", table, of(1, 4, 4, 0, 7), 0, false, api.ErrSeq)
	var none *producer.Table
	if base, dup, e := none.Check(of(1, 0, 0, 0, 7)); base != 0 || dup || e != api.OK {
		t.Errorf("Check of a nil Table is %d, %v, %d", base, dup, e)
	}
	if e := none.Add(of(1, 0, 0, 0, 7)); e != api.ErrSeq {
		t.Errorf("Add to a nil Table is %d", e)
	}
}

func TestAddWithoutRecordsTellsCheckFirst(t *testing.T) { // P10.1, rule 1 of DOC.md
	table := added(t, of(1, 2, 0, 1, 50))
	for _, c := range []struct {
		what           string
		id, epoch, seq int
		want           api.Errno
	}{
		{"below the next one", 1, 2, 0, api.ErrDup},
		{"far below the next one", 1, 2, math.MinInt, api.ErrDup},
		{"the next one", 1, 2, 1, api.ErrSeq},
		{"a gap", 1, 2, 7, api.ErrSeq},
		{"an epoch below", 1, 1, 0, api.ErrEpoch},
		{"an epoch below, the next number", 1, 1, 1, api.ErrEpoch},
		{"an epoch below, a gap", 1, -1, 7, api.ErrEpoch},
		{"an epoch above", 1, 3, 0, api.ErrSeq},
		{"an epoch above, not from the beginning", 1, 3, 1, api.ErrSeq},
		{"not known", 2, 2, 0, api.ErrSeq},
		{"not known, not from the beginning", 2, 2, 1, api.ErrSeq},
		{"no producer", 0, 2, 7, api.OK},
		{"below no producer", -1, 1, 0, api.OK},
	} {
		if e := table.Add(of(c.id, c.epoch, c.seq, 0, 60)); e != c.want {
			t.Errorf("%s: Add is %d, not %d", c.what, e, c.want)
		}
		if !producer.Same(table, added(t, of(1, 2, 0, 1, 50))) {
			t.Errorf("%s: Add changes the table", c.what)
		}
	}
}

func TestWindow(t *testing.T) { // P10.1
	table := producer.New()
	for i := range 12 {
		if e := table.Add(of(1, 0, 10*i, 10, 1000*i)); e != api.OK {
			t.Fatal(e)
		}
		for j := range i + 1 {
			b := of(1, 0, 10*j, 10, 7)
			if j > i-api.Window {
				checks(t, "in the window", table, b, 1000*j, true, api.OK)
			} else {
				checks(t, "out of the window", table, b, 0, false, api.ErrDup)
			}
		}
	}
}

func TestKnownAndNext(t *testing.T) { // P10.2
	table := producer.New()
	for _, id := range []int{40, 3, 1 << 40, 7, 3} {
		_, seq, _ := table.Next(id)
		if e := table.Add(of(id, 2, seq, 4, 10+seq)); e != api.OK {
			t.Fatal(e)
		}
	}
	if got := table.Known(); !slices.Equal(got, []int{3, 7, 40, 1 << 40}) {
		t.Errorf("Known is %v", got)
	}
	for id, want := range map[int]int{3: 8, 7: 4, 40: 4, 1 << 40: 4} {
		if epoch, seq, ok := table.Next(id); epoch != 2 || seq != want || !ok {
			t.Errorf("Next(%d) is %d, %d, %v", id, epoch, seq, ok)
		}
	}
	for _, id := range []int{0, -1, 4, math.MaxInt} {
		if epoch, seq, ok := table.Next(id); epoch != 0 || seq != 0 || ok {
			t.Errorf("Next(%d) is %d, %d, %v", id, epoch, seq, ok)
		}
	}
	table.Known()[0] = 99
	if got := table.Known(); got[0] != 3 {
		t.Error("two answers share memory")
	}
}

// nums writes numbers as chapter 1 does.
func nums(l ...int) (p []byte) {
	for _, n := range l {
		p = binary.AppendVarint(p, int64(n))
	}
	return p
}

func TestEncodeWritesTheTable(t *testing.T) { // P10.2
	if got := producer.New().Encode(); !bytes.Equal(got, nums(0)) {
		t.Errorf("of nothing: %v", got)
	}
	table := added(t, of(9, 2, 0, 3, 100), of(4, 0, 0, 1, 103), of(9, 2, 3, 100, 1<<40))
	want := nums(2, 4, 0, 1, 0, 1, 103, 9, 2, 2, 0, 3, 100, 3, 100, 1<<40)
	if got := table.Encode(); !bytes.Equal(got, want) {
		t.Errorf("Encode is %v, not %v", got, want)
	}
	for i := range 7 {
		if e := table.Add(of(4, 0, i+1, 1, 200+i)); e != api.OK {
			t.Fatal(e)
		}
	}
	want = nums(2, 4, 0, 5, 3, 1, 202, 4, 1, 203, 5, 1, 204, 6, 1, 205, 7, 1, 206, 9, 2, 2, 0, 3, 100, 3, 100, 1<<40)
	if got := table.Encode(); !bytes.Equal(got, want) {
		t.Errorf("Encode is %v, not %v", got, want)
	}
}

func TestDecodeReadsWhatEncodeWrote(t *testing.T) { // P10.2, P10.3
	tables := []*producer.Table{producer.New(), added(t, of(1, 0, 0, 1, 0)), added(t, of(1<<40, 32767, 0, 100, 1<<62))}
	table := producer.New()
	for i := range 40 {
		id := 1 + i*i%7
		_, seq, _ := table.Next(id)
		if e := table.Add(of(id, 0, seq, 1+i%9, 10*i)); e != api.OK {
			t.Fatal(e)
		}
		tables = append(tables, table.Copy())
	}
	for i, table := range tables {
		p := table.Encode()
		got, e := producer.Decode(p)
		if e != api.OK || !producer.Same(got, table) || !bytes.Equal(got.Encode(), p) {
			t.Errorf("%d: Decode is %d", i, e)
		}
		for cut := range p {
			if got, e := producer.Decode(p[:cut]); got != nil || e != api.ErrBad {
				t.Errorf("%d: Decode of %d bytes is %d", i, cut, e)
			}
		}
		if got, e := producer.Decode(append(slices.Clone(p), 0)); got != nil || e != api.ErrBad {
			t.Errorf("%d: Decode of more is %d", i, e)
		}
	}
}

func TestDecodeRefuses(t *testing.T) { // P10.2
	for _, c := range []struct {
		what string
		p    []byte
		want api.Errno
	}{
		{"one", nums(1, 5, 0, 1, 7, 3, 9), api.OK},
		{"the greatest", nums(1, 1<<40, 32767, 1, 1<<62, 100, 1<<62), api.OK},
		{"five", nums(1, 5, 0, 5, 0, 1, 0, 1, 1, 1, 2, 1, 2, 3, 1, 3, 4, 1, 4), api.OK},
		{"two producers", nums(2, 5, 0, 1, 7, 3, 9, 6, 0, 1, 7, 3, 9), api.OK},
		{"nothing", nil, api.ErrBad},
		{"fewer than none", nums(-1), api.ErrBad},
		{"fewer than none, and one", nums(-1, 5, 0, 1, 7, 3, 9), api.ErrBad},
		{"more than there are", nums(2, 5, 0, 1, 7, 3, 9), api.ErrBad},
		{"far more than there are", nums(math.MaxInt, 5, 0, 1, 7, 3, 9), api.ErrBad},
		{"fewer than there are", nums(0, 5, 0, 1, 7, 3, 9), api.ErrBad},
		{"id 0", nums(1, 0, 0, 1, 7, 3, 9), api.ErrBad},
		{"an id below", nums(1, -5, 0, 1, 7, 3, 9), api.ErrBad},
		{"an id above", nums(1, 1<<40+1, 0, 1, 7, 3, 9), api.ErrBad},
		{"ids that do not rise", nums(2, 5, 0, 1, 7, 3, 9, 5, 0, 1, 7, 3, 9), api.ErrBad},
		{"ids that fall", nums(2, 6, 0, 1, 7, 3, 9, 5, 0, 1, 7, 3, 9), api.ErrBad},
		{"an epoch below", nums(1, 5, -1, 1, 7, 3, 9), api.ErrBad},
		{"an epoch above", nums(1, 5, 32768, 1, 7, 3, 9), api.ErrBad},
		{"no batch", nums(1, 5, 0, 0), api.ErrBad},
		{"fewer batches than none", nums(1, 5, 0, -1), api.ErrBad},
		{"six batches", nums(1, 5, 0, 6, 0, 1, 0, 1, 1, 1, 2, 1, 2, 3, 1, 3, 4, 1, 4, 5, 1, 5), api.ErrBad},
		{"Seq below", nums(1, 5, 0, 1, -1, 3, 9), api.ErrBad},
		{"Seq above", nums(1, 5, 0, 1, 1<<62+1, 3, 9), api.ErrBad},
		{"a count of none", nums(1, 5, 0, 1, 7, 0, 9), api.ErrBad},
		{"a count above", nums(1, 5, 0, 1, 7, 101, 9), api.ErrBad},
		{"Base below", nums(1, 5, 0, 1, 7, 3, -1), api.ErrBad},
		{"Base above", nums(1, 5, 0, 1, 7, 3, 1<<62+1), api.ErrBad},
		{"a gap", nums(1, 5, 0, 2, 7, 3, 9, 11, 1, 19), api.ErrBad},
		{"Seq twice", nums(1, 5, 0, 2, 7, 3, 9, 9, 1, 19), api.ErrBad},
		{"no gap", nums(1, 5, 0, 2, 7, 3, 9, 10, 1, 10), api.OK},
		{"a Base twice", nums(1, 5, 0, 2, 7, 3, 9, 10, 1, 9), api.ErrBad},
		{"a Base that falls", nums(1, 5, 0, 2, 7, 3, 9, 10, 1, 8), api.ErrBad},
		{"a number not the shortest", []byte{2, 10, 0, 2, 14, 6, 146, 0}, api.ErrBad},
	} {
		got, e := producer.Decode(c.p)
		if e != c.want || (got == nil) != (e != api.OK) {
			t.Errorf("%s: %d, not %d", c.what, e, c.want)
		}
		if e == api.OK && !bytes.Equal(got.Encode(), c.p) {
			t.Errorf("%s: Encode is %v, not %v", c.what, got.Encode(), c.p)
		}
	}
}

func TestDecodedTableGoesOn(t *testing.T) { // P10.2
	table, e := producer.Decode(nums(1, 5, 2, 1, 7, 3, 9))
	if e != api.OK {
		t.Fatal(e)
	}
	checks(t, "the next one", table, of(5, 2, 10, 1, 20), 0, false, api.OK)
	checks(t, "the last one again", table, of(5, 2, 7, 3, 20), 9, true, api.OK)
	checks(t, "one ahead of it", table, of(5, 2, 0, 7, 20), 0, false, api.ErrDup)
	checks(t, "an epoch below", table, of(5, 1, 10, 1, 20), 0, false, api.ErrEpoch)
}

func TestCopyAndSame(t *testing.T) { // P10.2
	table := added(t, of(1, 0, 0, 2, 0), of(2, 1, 0, 3, 5))
	other := table.Copy()
	if !producer.Same(table, other) {
		t.Error("a copy is another one")
	}
	if e := other.Add(of(1, 0, 2, 2, 20)); e != api.OK {
		t.Fatal(e)
	}
	if producer.Same(table, other) || producer.Same(other, table) {
		t.Error("a copy is the table itself")
	}
	if e := table.Add(of(1, 0, 2, 2, 21)); e != api.OK {
		t.Fatal(e)
	}
	if producer.Same(table, other) {
		t.Error("the same with another Base")
	}
	one := of(1, 0, 0, 2, 0)
	for what, b := range map[string][]api.Batch{
		"another id":      {of(2, 0, 0, 2, 0)},
		"another epoch":   {of(1, 1, 0, 2, 0)},
		"another count":   {of(1, 0, 0, 3, 0)},
		"another Base":    {of(1, 0, 0, 2, 1)},
		"one batch more":  {one, of(1, 0, 2, 2, 9)},
		"one more":        {one, of(2, 0, 0, 2, 0)},
		"nothing":         nil,
		"another history": {of(1, 0, 0, 1, 0), of(1, 0, 1, 1, 1)},
	} {
		if producer.Same(added(t, one), added(t, b...)) || producer.Same(added(t, b...), added(t, one)) {
			t.Errorf("%s is the same", what)
		}
	}
	if !producer.Same(nil, nil) || !producer.Same(producer.New(), producer.New()) || producer.Same(nil, table) || producer.Same(table, nil) {
		t.Error("two nil ones, or two new ones")
	}
}

func TestNilTable(t *testing.T) { // P10.2
	var table *producer.Table
	base, dup, e := table.Check(of(1, 0, 0, 2, 7))
	if base != 0 || dup || e != api.OK {
		t.Errorf("Check is %d, %v, %d", base, dup, e)
	}
	if _, _, e := table.Check(of(1, 0, 1, 2, 7)); e != api.ErrSeq {
		t.Errorf("Check of a gap is %d", e)
	}
	if table.Add(of(1, 0, 0, 2, 7)) != api.ErrSeq || table.Add(of(1, 0, 5, 2, 7)) != api.ErrSeq || table.Add(of(0, 0, 0, 2, 7)) != api.OK || table.Add(of(-1, 0, 0, 0, 7)) != api.OK {
		t.Error("Add to a nil Table")
	}
	if len(table.Known()) != 0 || table.Copy() != nil || !bytes.Equal(table.Encode(), nums(0)) {
		t.Error("a nil Table has something")
	}
	if epoch, seq, ok := table.Next(1); epoch != 0 || seq != 0 || ok {
		t.Error("a nil Table knows one")
	}
}

func TestTableKeepsNothing(t *testing.T) { // rule 3 of DOC.md
	b := of(1, 0, 0, 2, 7)
	table := added(t, b)
	b.Records = append(b.Records, api.Record{})
	b.Seq = 9
	checks(t, "again", table, of(1, 0, 0, 2, 0), 7, true, api.OK)
	p := table.Encode()
	other, _ := producer.Decode(p)
	clear(p)
	if !producer.Same(table, other) {
		t.Error("a table is changed by what was handed in, or answered")
	}
}
