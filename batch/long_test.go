package batch_test

import (
	"testing"

	"cordwain/batch"
)

func TestLongIsTheWholeLength(t *testing.T) { // for the packages below
	p := encoded(t, good())
	for i := range p {
		want := 0
		if i >= batch.Front {
			want = len(p)
		}
		if got := batch.Long(p[:i]); got != want {
			t.Errorf("Long of %d bytes is %d, not %d", i, got, want)
		}
	}
}
