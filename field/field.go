// Package field implements arithmetic in prime fields (layer 1): see shared/doc/01-field.md.
package field

import (
	"math/bits"
	"slices"

	"moidore/api"
)

// maxPowers is the greatest number of powers that Powers returns.
const maxPowers = 65536

// Field is a prime field; P is one of the known primes.
type Field struct{ P uint64 }

// facts are the numbers that belong to a known prime.
type facts struct {
	generator uint64
	adicity   int
	exponent  uint64
}

// Known returns the known primes in ascending order.
func Known() []uint64 { return []uint64{17, 97, 193, 257, 12289, 65537, api.Big} }

// Valid reports whether P is a known prime.
func (f Field) Valid() bool {
	// All operations begin with this, so it compares with constants only.
	switch f.P {
	case 17, 97, 193, 257, 12289, 65537, api.Big:
		return true
	}
	return false
}

// factsOf returns the numbers that belong to a prime, zeros if it is not known.
func factsOf(p uint64) facts {
	switch p {
	case 17:
		return facts{generator: 3, adicity: 4, exponent: 3}
	case 97:
		return facts{generator: 5, adicity: 5, exponent: 5}
	case 193:
		return facts{generator: 5, adicity: 6, exponent: 5}
	case 257:
		return facts{generator: 3, adicity: 8, exponent: 3}
	case 12289:
		return facts{generator: 11, adicity: 12, exponent: 5}
	case 65537:
		return facts{generator: 3, adicity: 16, exponent: 3}
	case api.Big:
		return facts{generator: 7, adicity: 32, exponent: 7}
	}
	return facts{}
}

// Reduce returns n modulo P.
func (f Field) Reduce(n uint64) uint64 {
	if !f.Valid() {
		return 0
	}
	return f.reduce(n)
}

// Add returns a + b.
func (f Field) Add(a, b uint64) uint64 {
	if !f.Valid() {
		return 0
	}
	return f.add(f.reduce(a), f.reduce(b))
}

// Sub returns a - b.
func (f Field) Sub(a, b uint64) uint64 {
	if !f.Valid() {
		return 0
	}
	a, b = f.reduce(a), f.reduce(b)
	if a >= b {
		return a - b
	}
	return f.P - (b - a)
}

// Neg returns -a.
func (f Field) Neg(a uint64) uint64 { return f.Sub(0, a) }

// Mul returns a times b.
func (f Field) Mul(a, b uint64) uint64 {
	if !f.Valid() {
		return 0
	}
	return f.mul(f.reduce(a), f.reduce(b))
}

// Inv returns the inverse of a, or 0 for 0.
func (f Field) Inv(a uint64) uint64 {
	// The power of a with the exponent P - 1 is 1, unless a is 0.
	return f.Pow(a, f.P-2)
}

// Div returns a times the inverse of b.
func (f Field) Div(a, b uint64) uint64 { return f.Mul(a, f.Inv(b)) }

// Pow returns the power of a with the exponent e.
func (f Field) Pow(a, e uint64) uint64 {
	if !f.Valid() {
		return 0
	}
	result := uint64(1)
	for square := f.reduce(a); e > 0; e >>= 1 {
		if e&1 == 1 {
			result = f.mul(result, square)
		}
		square = f.mul(square, square)
	}
	return result
}

// Generator returns the least generator of the multiplicative group.
func (f Field) Generator() uint64 { return factsOf(f.P).generator }

// Adicity returns the exponent of the greatest power of two that divides P - 1.
func (f Field) Adicity() int { return factsOf(f.P).adicity }

// Root returns the primitive root of unity of order n, a power of two, and whether there is one.
func (f Field) Root(n int) (uint64, bool) {
	if !f.Valid() || n < 1 || n&(n-1) != 0 || (f.P-1)%uint64(n) != 0 {
		return 0, false
	}
	return f.Pow(f.Generator(), (f.P-1)/uint64(n)), true
}

// Exponent returns the least odd number from 3 on that has no common divisor with P - 1.
func (f Field) Exponent() uint64 { return factsOf(f.P).exponent }

// Sum returns the sum of a list.
func (f Field) Sum(l []uint64) uint64 {
	if !f.Valid() {
		return 0
	}
	sum := uint64(0)
	for _, n := range l {
		sum = f.add(sum, f.reduce(n))
	}
	return sum
}

// Dot returns the sum of the products of the elements of two lists.
func (f Field) Dot(a, b []uint64) uint64 {
	if !f.Valid() {
		return 0
	}
	sum := uint64(0)
	for i := range min(len(a), len(b)) {
		sum = f.add(sum, f.mul(f.reduce(a[i]), f.reduce(b[i])))
	}
	return sum
}

// Powers returns the first n powers of a, from the exponent 0 on.
func (f Field) Powers(a uint64, n int) []uint64 {
	if !f.Valid() || n < 0 || n > maxPowers {
		return nil
	}
	a = f.reduce(a)
	powers := make([]uint64, n)
	power := uint64(1)
	for i := range powers {
		powers[i] = power
		power = f.mul(power, a)
	}
	return powers
}

// Inverses returns the inverses of all elements.
func (f Field) Inverses(l []uint64) []uint64 {
	if !f.Valid() {
		return nil
	}
	// One inversion costs as much as many products, so only the product of all
	// elements but the zeros is inverted. Each inverse is then the product of
	// the elements before it and the inverse of the product up to it.
	inverses := make([]uint64, len(l))
	product := uint64(1)
	for i, n := range l {
		inverses[i] = product
		if a := f.reduce(n); a != 0 {
			product = f.mul(product, a)
		}
	}
	inverse := f.Inv(product)
	for i, n := range slices.Backward(l) {
		a := f.reduce(n)
		if a == 0 {
			inverses[i] = 0
			continue
		}
		inverses[i] = f.mul(inverses[i], inverse)
		inverse = f.mul(inverse, a)
	}
	return inverses
}

// reduce is Reduce in a valid field. Most numbers are reduced already, and
// comparing is cheaper than dividing.
func (f Field) reduce(n uint64) uint64 {
	if n < f.P {
		return n
	}
	return n % f.P
}

// add is Add in a valid field, for reduced numbers.
func (f Field) add(a, b uint64) uint64 {
	// a + b can exceed 64 bits, so a is compared with -b.
	if negative := f.P - b; a >= negative {
		return a - negative
	}
	return a + b
}

// mul is Mul in a valid field, for reduced numbers.
func (f Field) mul(a, b uint64) uint64 {
	high, low := bits.Mul64(a, b)
	if f.P == api.Big {
		return reduceBig(high, low)
	}
	return low % f.P // the other primes have at most 17 bits, so high is 0
}

// reduceBig returns high * 2^64 + low modulo api.Big. It needs no division,
// because 2^64 is 2^32 - 1 and 2^96 is -1 modulo api.Big.
func reduceBig(high, low uint64) uint64 {
	const wrap = 1<<32 - 1 // 2^64 modulo api.Big
	rest, borrow := bits.Sub64(low, high>>32, 0)
	if borrow == 1 {
		rest -= wrap
	}
	sum, carry := bits.Add64(rest, (high&wrap)*wrap, 0)
	if carry == 1 {
		sum += wrap
	}
	if sum >= api.Big {
		sum -= api.Big
	}
	return sum
}
