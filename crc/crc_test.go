package crc_test

import (
	"bytes"
	stdcrc "hash/crc32"
	"testing"

	"cordwain/crc"
)

// texts are some bytes of each length up to most, none like another.
func texts(most int) (l [][]byte) {
	for n := range most {
		b := make([]byte, n)
		for i := range b {
			b[i] = byte(i*i*31 + n*7 + i)
		}
		l = append(l, b)
	}
	return l
}

func TestSumsThatAreKnown(t *testing.T) { // P2.1
	for _, c := range []struct {
		b    []byte
		want uint32
	}{
		{nil, 0},
		{[]byte("123456789"), 0xe3069283},
		{[]byte("a"), 0xc1d04330},
		{make([]byte, 32), 0x8a9136aa},
		{bytes.Repeat([]byte{255}, 32), 0x62a8ab43},
	} {
		if got := crc.Sum(c.b); got != c.want {
			t.Errorf("Sum(%v) is %x, not %x", c.b, got, c.want)
		}
	}
	if crc.Sum() != 0 || crc.Sum(nil, nil) != 0 {
		t.Error("the sum of nothing is not 0")
	}
}

func TestSumIsCastagnolis(t *testing.T) { // P2.1
	table := stdcrc.MakeTable(stdcrc.Castagnoli)
	for _, b := range texts(300) {
		if got, want := crc.Sum(b), stdcrc.Checksum(b, table); got != want {
			t.Fatalf("Sum of %d bytes is %x, not %x", len(b), got, want)
		}
	}
}

func TestSumHangsOnAllBytesTogether(t *testing.T) { // P2.1, P2.2
	for _, b := range texts(40) {
		whole := crc.Sum(b)
		for i := range len(b) + 1 {
			if crc.Sum(b[:i], b[i:]) != whole || crc.Sum(b[:i], nil, b[i:i], b[i:]) != whole {
				t.Fatalf("%d bytes, cut at %d, have another sum", len(b), i)
			}
			if crc.More(crc.Sum(b[:i]), b[i:]) != whole {
				t.Fatalf("%d bytes: More from %d on has another sum", len(b), i)
			}
			var r crc.Roller
			r.Add(b[:i]...)
			if r.Sum() != crc.Sum(b[:i]) {
				t.Fatalf("a Roller of %d bytes has another sum", i)
			}
			r.Add()
			r.Add(b[i:]...)
			if r.Sum() != whole || r.Sum() != whole {
				t.Fatalf("a Roller that went on at %d has another sum", i)
			}
		}
	}
}

func TestRollersHaveNothingInCommon(t *testing.T) { // P2.1
	var a, b crc.Roller
	a.Add('1')
	if b.Sum() != 0 || a.Sum() == 0 {
		t.Error("a zero Roller has added something")
	}
	b.Add('1', '2')
	for _, x := range []byte("23456789") {
		a.Add(x)
	}
	if a.Sum() != 0xe3069283 || b.Sum() != crc.Sum([]byte("12")) {
		t.Error("one Roller's bytes came to another one")
	}
}

func TestNilRoller(t *testing.T) { // P2.1
	var r *crc.Roller
	r.Add(1, 2)
	if r.Sum() != 0 {
		t.Error("a nil Roller has a sum")
	}
}

func TestNothingHandedInIsChanged(t *testing.T) { // P2.2
	b := []byte("123456789")
	crc.Sum(b)
	crc.More(5, b)
	var r crc.Roller
	r.Add(b...)
	if string(b) != "123456789" {
		t.Error("the bytes are changed")
	}
}
