// Package wide is layer 1: integers of 128 bits, in which intersections and lengths are computed without rounding.
package wide

import (
	"cmp"
	"math/bits"

	"calamus/api"
)

// Int is a number of 128 bits in two's complement: Hi times 2^64, and Lo.
type Int struct {
	Hi int64
	Lo uint64
}

// Of is a small number.
func Of(n int64) Int { return Int{Hi: n >> 63, Lo: uint64(n)} }

// Small is a number that is small.
func Small(a Int) (int64, bool) {
	n := int64(a.Lo)
	if Of(n) != a {
		return 0, false
	}
	return n, true
}

// Add adds, modulo 2^128.
func Add(a, b Int) Int {
	lo, carry := bits.Add64(a.Lo, b.Lo, 0)
	hi, _ := bits.Add64(uint64(a.Hi), uint64(b.Hi), carry)
	return Int{Hi: int64(hi), Lo: lo}
}

// Sub takes away, modulo 2^128.
func Sub(a, b Int) Int {
	lo, borrow := bits.Sub64(a.Lo, b.Lo, 0)
	hi, _ := bits.Sub64(uint64(a.Hi), uint64(b.Hi), borrow)
	return Int{Hi: int64(hi), Lo: lo}
}

// Neg is the other side of 0, modulo 2^128.
func Neg(a Int) Int { return Sub(Int{}, a) }

// Mul is the product of two small numbers.
func Mul(a, b int64) Int {
	hi, lo := bits.Mul64(uint64(a), uint64(b))
	p := Int{Hi: int64(hi), Lo: lo}
	// Taken without its sign, a negative factor is too great by 2^64.
	if a < 0 {
		p.Hi -= b
	}
	if b < 0 {
		p.Hi -= a
	}
	return p
}

// Cmp says which is greater.
func Cmp(a, b Int) int {
	if a.Hi != b.Hi {
		return cmp.Compare(a.Hi, b.Hi)
	}
	return cmp.Compare(a.Lo, b.Lo)
}

// Sign says on which side of 0 a number is.
func Sign(a Int) int { return Cmp(a, Int{}) }

// Div divides, rounded down.
func Div(a Int, d int64) (q Int, r int64, e api.Errno) {
	if d < 1 {
		return Int{}, 0, api.ErrArg
	}
	if a.Hi < 0 {
		// The complement -1-a is not negative, and the answer for it is the complement of the answer for a.
		q, r = divide(complement(a), d)
		return complement(q), d - 1 - r, api.OK
	}
	q, r = divide(a, d)
	return q, r, api.OK
}

// complement is -1 - a.
func complement(a Int) Int { return Int{Hi: ^a.Hi, Lo: ^a.Lo} }

// divide divides what is not negative by what is positive.
func divide(a Int, d int64) (Int, int64) {
	hi, rest := uint64(a.Hi)/uint64(d), uint64(a.Hi)%uint64(d)
	lo, r := bits.Div64(rest, a.Lo, uint64(d))
	return Int{Hi: int64(hi), Lo: lo}, int64(r)
}

// Root is a square root, rounded down.
func Root(a Int) (uint64, api.Errno) {
	if a.Hi < 0 {
		return 0, api.ErrArg
	}
	var root uint64
	for i := range 64 {
		more := root | 1<<(63-i)
		if !squareExceeds(more, a) {
			root = more
		}
	}
	return root, api.OK
}

// squareExceeds says whether the square of n is greater than a, which is not negative.
func squareExceeds(n uint64, a Int) bool {
	hi, lo := bits.Mul64(n, n)
	return hi > uint64(a.Hi) || hi == uint64(a.Hi) && lo > a.Lo
}
