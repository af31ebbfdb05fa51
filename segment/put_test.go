package segment_test

import (
	"testing"

	"cordwain/api"
)

func TestPutLetsNothingBeSeenThatIsNotFlushed(t *testing.T) { // for the packages below
	for cut := range 4 {
		d := fresh(t, 1000)
		s := created(t, d, 100, 1)
		d.Cut(cut)
		e := s.Put(of(100, 5), true)
		if cut == 3 {
			if e != api.OK {
				t.Errorf("Put is %d", e)
			}
			shows(t, "put", s, 100, []api.Batch{of(100, 5)})
			shows(t, "safe", opened(t, d.Crash(), 100, 1), 100, []api.Batch{of(100, 5)})
			continue
		}
		if e != api.ErrOff {
			t.Errorf("cut %d: Put is %d", cut, e)
		}
		shows(t, "cut off", s, 100, nil)
	}
}
