package whole_test

import (
	"math/big"
	"testing"

	"signet/whole"
)

var amounts = []int64{-1 << 63, -1<<63 + 1, -1 << 62, -1 << 32, -2, -1, 0, 1, 2, 1 << 32, 1 << 62, 1<<63 - 2, 1<<63 - 1}

// Each three amounts, in each order, are what they are without bounds.
func TestNumbersDoNotWrap(t *testing.T) {
	for _, a := range amounts {
		for _, b := range amounts {
			for _, c := range amounts {
				n := whole.Number{}.Plus(a).Plus(b).Plus(c)
				want := new(big.Int).Add(big.NewInt(a), big.NewInt(b))
				want.Add(want, big.NewInt(c))
				if n.Fits() != want.IsInt64() || n.Fits() && n.Int64() != want.Int64() || (n == whole.Number{}) != (want.Sign() == 0) {
					t.Errorf("'Words': %d, %d, %d together = %d (%t), want %d", a, b, c, n.Int64(), n.Fits(), want)
				}
			}
		}
	}
}

func TestManyAmounts(t *testing.T) {
	var up, down whole.Number
	for range 1000 {
		up, down = up.Plus(1<<63-1), down.Plus(-1<<63)
		if up == (whole.Number{}) || down == (whole.Number{}) {
			t.Fatal("'Words': a sum wrapped to 0")
		}
	}
	if up.Fits() || down.Fits() {
		t.Error("'Words': a sum of a thousand amounts fits")
	}
	for range 1000 {
		up, down = up.Plus(-1<<63), down.Plus(1<<63-1)
	}
	if !up.Fits() || up.Int64() != -1000 || !down.Fits() || down.Int64() != -1000 {
		t.Errorf("'Words': there and back = %d, %d, want -1000", up.Int64(), down.Int64())
	}
}
