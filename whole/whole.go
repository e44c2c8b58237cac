// Package whole: sums of amounts as whole numbers that do not wrap round: see DOC.md, 'Words'.
package whole

import "math/bits"

// Number is a whole number of 128 bits, in two's complement. So many amounts that it wraps round do not fit into any list.
type Number struct {
	high, low uint64
}

// Plus is the number and an amount together.
func (n Number) Plus(amount int64) Number {
	low, carry := bits.Add64(n.low, uint64(amount), 0)
	high, _ := bits.Add64(n.high, uint64(amount>>63), carry)
	return Number{high, low}
}

// Fits: whether it is one of the numbers of 64 bits.
func (n Number) Fits() bool {
	return n == Number{}.Plus(n.Int64())
}

// Int64 is the number, if it fits.
func (n Number) Int64() int64 { return int64(n.low) }
