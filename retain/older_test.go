package retain_test

import (
	"math"
	"math/big"
	"testing"

	"cordwain/retain"
)

func TestOlderReckonsBeyondAllNumbers(t *testing.T) { // for the packages below
	edges := []int{math.MinInt, math.MinInt + 1, -7, -1, 0, 1, 6, 7, 8, math.MaxInt - 1, math.MaxInt}
	for _, time := range edges {
		for _, now := range edges {
			for _, age := range edges {
				passed := new(big.Int).Sub(big.NewInt(int64(now)), big.NewInt(int64(time)))
				if got, want := retain.Older(time, now, age), passed.Cmp(big.NewInt(int64(age))) > 0; got != want {
					t.Errorf("Older(%d, %d, %d) is %v", time, now, age, got)
				}
			}
		}
	}
}
