package transform_test

import (
	"fmt"
	"math"
	"math/bits"
	"slices"
	"testing"

	"moidore/api"
	"moidore/field"
	"moidore/poly"
	"moidore/transform"
)

// unknown are numbers that are not known primes.
var unknown = []uint64{0, 1, 2, 3, 15, 16, 18, 19, 34, 96, 256, 65536, 17 * 97, 1<<61 - 1,
	api.Big - 1, api.Big + 1, math.MaxUint64}

// generators are the least generators of the multiplicative groups.
var generators = map[uint64]uint64{17: 3, 97: 5, 193: 5, 257: 3, 12289: 11, 65537: 3, api.Big: 7}

// longest are the greatest valid lengths.
var longest = map[uint64]int{17: 16, 97: 32, 193: 64, 257: 256, 12289: 4096, 65537: 4096, api.Big: 4096}

// never are lengths that are not valid for any prime.
var never = []int{math.MinInt, -4096, -17, -4, -2, -1, 0, 3, 5, 6, 7, 9, 12, 24, 48, 96, 192, 255, 257, 3072, 4095,
	4097, 6144, 8191, 8192, 12288, 16384, 65536, 1 << 20, 1 << 32, 1 << 40, 1 << 62, math.MaxInt}

// forAllFields runs a test in each of the seven known fields.
func forAllFields(t *testing.T, test func(t *testing.T, f field.Field)) {
	t.Helper()
	if len(field.Known()) != 7 {
		t.Fatalf("%d known primes", len(field.Known()))
	}
	for _, p := range field.Known() {
		t.Run(fmt.Sprint(p), func(t *testing.T) { test(t, field.Field{P: p}) })
	}
}

// forAllLengths runs a test for each valid length of each field.
func forAllLengths(t *testing.T, test func(t *testing.T, f field.Field, n int)) {
	t.Helper()
	forAllFields(t, func(t *testing.T, f field.Field) {
		for n := 1; n <= longest[f.P]; n *= 2 {
			test(t, f, n)
		}
	})
}

// numbers returns n numbers of 64 bits that follow from a seed; some of them are small.
func numbers(seed uint64, n int) []uint64 {
	l := make([]uint64, n)
	for i := range l {
		seed = seed*6364136223846793005 + 1442695040888963407
		l[i] = seed >> 33
		if i%2 == 1 {
			l[i] |= seed << 31
		}
	}
	return l
}

// lists returns lists of n numbers: zeros, others that are 0 after the
// reduction, constants, numbers at the edges of the field, and any others.
func lists(p uint64, n int) [][]uint64 {
	l := [][]uint64{
		make([]uint64, n), slices.Repeat([]uint64{p}, n), slices.Repeat([]uint64{1}, n),
		slices.Repeat([]uint64{p - 1}, n), slices.Repeat([]uint64{math.MaxUint64}, n), numbers(p, n), numbers(uint64(n), n),
	}
	if n > 0 {
		first, last := make([]uint64, n), make([]uint64, n)
		first[0], last[n-1] = 1, p+2
		l = append(l, first, last)
	}
	return l
}

// shifts returns shifts of which some are not reduced, but none is 0.
func shifts(p uint64) []uint64 {
	return []uint64{1, 2, 3, 13, p - 1, p + 1, p + 5, math.MaxUint64 - 1}
}

// The reference below calculates with products of 128 bits, and evaluates polynomials term by term.

func times(p, a, b uint64) uint64 {
	high, low := bits.Mul64(a%p, b%p)
	_, remainder := bits.Div64(high, low, p)
	return remainder
}

func plus(p, a, b uint64) uint64 {
	low, carry := bits.Add64(a%p, b%p, 0)
	_, remainder := bits.Div64(carry, low, p)
	return remainder
}

func power(p, a, e uint64) uint64 {
	result := uint64(1)
	for ; e > 0; e >>= 1 {
		if e&1 == 1 {
			result = times(p, result, a)
		}
		a = times(p, a, a)
	}
	return result
}

// domain returns the points of a domain, each of them from the definition.
func domain(p, shift uint64, n int) []uint64 {
	root := power(p, generators[p], (p-1)/uint64(n))
	points := make([]uint64, n)
	for i := range points {
		points[i] = times(p, shift, power(p, root, uint64(i)))
	}
	return points
}

func value(p uint64, a []uint64, x uint64) uint64 {
	result := uint64(0)
	for _, n := range slices.Backward(a) {
		result = plus(p, times(p, result, x), n)
	}
	return result
}

func reduced(p uint64, a []uint64) []uint64 {
	l := make([]uint64, len(a))
	for i, n := range a {
		l[i] = n % p
	}
	return l
}

func sum(p uint64, a, b []uint64) []uint64 {
	l := make([]uint64, len(a))
	for i := range a {
		l[i] = plus(p, a[i], b[i])
	}
	return l
}

func multiple(p uint64, a []uint64, n uint64) []uint64 {
	l := make([]uint64, len(a))
	for i := range a {
		l[i] = times(p, a[i], n)
	}
	return l
}

func product(p uint64, a, b []uint64) []uint64 {
	if len(a) == 0 || len(b) == 0 {
		return nil
	}
	l := make([]uint64, len(a)+len(b)-1)
	for i := range a {
		for j := range b {
			l[i+j] = plus(p, l[i+j], times(p, a[i], b[j]))
		}
	}
	return l
}

// short describes a list.
func short(l []uint64) string {
	if len(l) <= 8 {
		return fmt.Sprint(l)
	}
	return fmt.Sprintf("%v.. (%d numbers)", l[:8], len(l))
}

// check tests a result that must be exactly a list of reduced elements.
func check(t *testing.T, name string, got []uint64, e api.Errno, want []uint64) {
	t.Helper()
	if e != api.OK || !slices.Equal(got, want) {
		t.Fatalf("%s = %s, %v, not %s", name, short(got), e, short(want))
	}
}

// checkError tests that there is an error and no result.
func checkError(t *testing.T, name string, got []uint64, e, want api.Errno) {
	t.Helper()
	if e != want || len(got) > 0 {
		t.Errorf("%s = %s, %v, not %v", name, short(got), e, want)
	}
}

// checkValues tests that a list contains the values of a polynomial at the
// points of a domain, at all of them if there are few, and at others that
// include the first and the last one.
func checkValues(t *testing.T, f field.Field, name string, values, a []uint64, shift uint64, n int) {
	t.Helper()
	if len(values) != n {
		t.Fatalf("%s has %d values", name, len(values))
	}
	points := domain(f.P, shift, n)
	step := 1
	if n > 256 {
		step = n/64 - 1 // odd, so that both even and odd indices occur
	}
	for i := 0; i < n; i += step {
		if want := value(f.P, a, points[i]); values[i] != want {
			t.Fatalf("%s: the value at point %d is %d, not %d", name, i, values[i], want)
		}
	}
	if want := value(f.P, a, points[n-1]); values[n-1] != want {
		t.Fatalf("%s: the last value is %d, not %d", name, values[n-1], want)
	}
}

func TestDocumentExamples(t *testing.T) {
	f := field.Field{P: 17}
	l, e := transform.Forward(f, []uint64{1, 2, 0, 0})
	check(t, "Forward", l, e, []uint64{3, 10, 16, 9})
	l, e = transform.Inverse(f, []uint64{3, 10, 16, 9})
	check(t, "Inverse", l, e, []uint64{1, 2, 0, 0})
	l, e = transform.Domain(f, 3, 2)
	check(t, "Domain", l, e, []uint64{3, 14})
	l, e = transform.Multiply(f, []uint64{1, 2}, []uint64{3, 1})
	check(t, "Multiply", l, e, []uint64{3, 7, 2})
	l, e = transform.Domain(f, 1, 4)
	check(t, "the domain of length 4", l, e, []uint64{1, 13, 16, 4})
}

// P4.1: the values at the powers of the root, for all valid lengths from 1 to 4096.
func TestForward(t *testing.T) {
	forAllLengths(t, func(t *testing.T, f field.Field, n int) {
		for i, a := range lists(f.P, n) {
			values, e := transform.Forward(f, a)
			if e != api.OK {
				t.Fatalf("Forward of list %d of %d numbers: %v", i, n, e)
			}
			checkValues(t, f, fmt.Sprintf("Forward of list %d", i), values, a, 1, n)
		}
	})
}

// P4.1: all values of a transform of length 4096.
func TestLongestForward(t *testing.T) {
	for _, p := range []uint64{12289, 65537, api.Big} {
		a := numbers(p+1, 4096)
		values, e := transform.Forward(field.Field{P: p}, a)
		var want []uint64
		for _, x := range domain(p, 1, 4096) {
			want = append(want, value(p, a, x))
		}
		check(t, fmt.Sprintf("modulo %d: Forward", p), values, e, want)
	}
}

// P4.1: the coefficients of the polynomial with some values. There is only one with so few of them.
func TestInverse(t *testing.T) {
	forAllLengths(t, func(t *testing.T, f field.Field, n int) {
		for i, values := range lists(f.P, n) {
			a, e := transform.Inverse(f, values)
			if e != api.OK || len(a) != n || !slices.Equal(a, reduced(f.P, a)) {
				t.Fatalf("Inverse of list %d of %d numbers = %s, %v", i, n, short(a), e)
			}
			checkValues(t, f, fmt.Sprintf("Inverse of list %d", i), reduced(f.P, values), a, 1, n)
		}
	})
}

// P4.1: the points of all domains, also for shifts that are not reduced.
func TestDomain(t *testing.T) {
	forAllLengths(t, func(t *testing.T, f field.Field, n int) {
		for _, shift := range shifts(f.P) {
			points, e := transform.Domain(f, shift, n)
			check(t, fmt.Sprintf("Domain(%d, %d)", shift, n), points, e, domain(f.P, shift, n))
		}
	})
}

// P4.1: all domains with all shifts of a small field; their points are different.
func TestAllShifts(t *testing.T) {
	for _, p := range []uint64{17, 97} {
		f := field.Field{P: p}
		for n := 1; n <= longest[p]; n *= 2 {
			for shift := uint64(1); shift < p; shift++ {
				points, e := transform.Domain(f, shift, n)
				check(t, fmt.Sprintf("Domain(%d, %d)", shift, n), points, e, domain(p, shift, n))
				slices.Sort(points)
				if len(slices.Compact(points)) != n {
					t.Errorf("points of the domain of %d and %d occur twice", shift, n)
				}
			}
		}
	}
}

// P4.1: polynomials that are shorter than the domain, as long, and longer, up to 8192 coefficients.
func TestEvaluate(t *testing.T) {
	forAllLengths(t, func(t *testing.T, f field.Field, n int) {
		for _, length := range []int{0, 1, n / 2, n - 1, n, n + 1, 2*n - 1, min(2*n+3, 8192), 100} {
			for i, a := range lists(f.P, length) {
				shift := shifts(f.P)[(i+length)%len(shifts(f.P))]
				values, e := transform.Evaluate(f, a, shift, n)
				if e != api.OK {
					t.Fatalf("Evaluate of list %d of %d numbers at %d points: %v", i, length, n, e)
				}
				checkValues(t, f, fmt.Sprintf("Evaluate of list %d of %d numbers with %d", i, length, shift), values, a, shift, n)
			}
		}
	})
}

// P4.1: each shift matters, and those that are equal modulo P are the same.
func TestEvaluateWithShifts(t *testing.T) {
	forAllFields(t, func(t *testing.T, f field.Field) {
		for _, length := range []int{3, 8, 21} {
			a := numbers(f.P, length)
			for _, shift := range shifts(f.P) {
				values, e := transform.Evaluate(f, a, shift, 8)
				if e != api.OK {
					t.Fatalf("Evaluate with %d: %v", shift, e)
				}
				checkValues(t, f, fmt.Sprintf("Evaluate with %d", shift), values, a, shift, 8)
			}
		}
	})
}

// P4.1: the limit of 8192 coefficients, which counts zeros too.
func TestLongPolynomials(t *testing.T) {
	forAllFields(t, func(t *testing.T, f field.Field) {
		for n := 1; n <= longest[f.P]; n *= 4 {
			for _, length := range []int{4097, 8191, 8192} {
				a := numbers(f.P, length)
				values, e := transform.Evaluate(f, a, 3, n)
				if e != api.OK {
					t.Fatalf("%d coefficients at %d points: %v", length, n, e)
				}
				checkValues(t, f, fmt.Sprintf("%d coefficients", length), values, a, 3, n)
			}
			for _, length := range []int{8193, 8194, 10000, 16384, 1 << 17} {
				values, e := transform.Evaluate(f, numbers(1, length), 3, n)
				checkError(t, fmt.Sprintf("%d coefficients", length), values, e, api.ErrTooLarge)
				values, e = transform.Evaluate(f, make([]uint64, length), 1, n)
				checkError(t, fmt.Sprintf("%d zeros", length), values, e, api.ErrTooLarge)
			}
		}
	})
}

// P4.1: the coefficients of the polynomial with some values on a domain.
func TestInterpolate(t *testing.T) {
	forAllLengths(t, func(t *testing.T, f field.Field, n int) {
		for i, values := range lists(f.P, n) {
			for j, shift := range shifts(f.P) {
				if n > 256 && (i+j)%4 != 0 {
					continue // the reference is slow
				}
				name := fmt.Sprintf("Interpolate of list %d of %d numbers with %d", i, n, shift)
				a, e := transform.Interpolate(f, values, shift)
				if e != api.OK || len(a) != n || !slices.Equal(a, reduced(f.P, a)) {
					t.Fatalf("%s = %s, %v", name, short(a), e)
				}
				checkValues(t, f, name, reduced(f.P, values), a, shift, n)
			}
		}
	})
}

// P4.1: products of polynomials of all small lengths, with all their coefficients.
func TestMultiply(t *testing.T) {
	forAllFields(t, func(t *testing.T, f field.Field) {
		for m := range 9 {
			for n := range 9 {
				for i, a := range lists(f.P, m) {
					for j, b := range lists(f.P, n) {
						l, e := transform.Multiply(f, a, b)
						check(t, fmt.Sprintf("list %d of %d by list %d of %d", i, m, j, n), l, e, product(f.P, a, b))
					}
				}
			}
		}
	})
}

// P4.1: factors without coefficients, also beside one of any length.
func TestEmptyFactors(t *testing.T) {
	forAllFields(t, func(t *testing.T, f field.Field) {
		for _, empty := range [][]uint64{nil, {}} {
			for _, n := range []int{0, 1, 2, 17, 4096, 4097, 1 << 17} {
				l, e := transform.Multiply(f, empty, numbers(1, n))
				checkError(t, fmt.Sprintf("nothing by %d", n), l, e, api.OK)
				l, e = transform.Multiply(f, numbers(1, n), empty)
				checkError(t, fmt.Sprintf("%d by nothing", n), l, e, api.OK)
			}
		}
	})
}

// P4.1: products up to the greatest valid length, and longer ones.
func TestLongProducts(t *testing.T) {
	forAllFields(t, func(t *testing.T, f field.Field) {
		n := longest[f.P]
		for _, m := range []int{1, 2, 3, n / 2, n/2 + 1, n - 1, n} {
			a, b := numbers(f.P, m), numbers(f.P+1, n-m+1)
			want := product(f.P, a, b)
			if len(want) != n {
				t.Fatalf("a product with %d coefficients", len(want))
			}
			l, e := transform.Multiply(f, a, b)
			check(t, fmt.Sprintf("%d by %d", len(a), len(b)), l, e, want)
			l, e = transform.Multiply(f, b, a)
			check(t, fmt.Sprintf("%d by %d", len(b), len(a)), l, e, want)
			l, e = transform.Multiply(f, a, b[1:])
			check(t, fmt.Sprintf("%d by %d", len(a), len(b)-1), l, e, product(f.P, a, b[1:]))
			l, e = transform.Multiply(f, append(a, 0), b)
			checkError(t, fmt.Sprintf("%d by %d", len(a)+1, len(b)), l, e, api.ErrTooLarge)
			l, e = transform.Multiply(f, b, append(a, f.P))
			checkError(t, fmt.Sprintf("%d by %d", len(b), len(a)+1), l, e, api.ErrTooLarge)
		}
		for _, m := range []int{1, n, n + 1, 8193, 1 << 17} {
			l, e := transform.Multiply(f, make([]uint64, m), make([]uint64, 1<<17))
			checkError(t, fmt.Sprintf("%d zeros by others", m), l, e, api.ErrTooLarge)
			l, e = transform.Multiply(f, make([]uint64, 1<<17), make([]uint64, m))
			checkError(t, fmt.Sprintf("%d zeros by others", m), l, e, api.ErrTooLarge)
		}
	})
}

// invalidLengths returns lengths that are not valid for a prime.
func invalidLengths(p uint64) []int {
	l := slices.Clone(never)
	for n := 2 * longest[p]; n <= 8192; n *= 2 {
		l = append(l, n)
	}
	return l
}

// P4.1: lengths that are not a power of two from 1 to 4096 that divides P - 1.
func TestInvalidLengths(t *testing.T) {
	forAllFields(t, func(t *testing.T, f field.Field) {
		for _, n := range invalidLengths(f.P) {
			l, e := transform.Domain(f, 1, n)
			checkError(t, fmt.Sprintf("Domain of length %d", n), l, e, api.ErrInvalid)
			for _, a := range [][]uint64{nil, {1}, {1, 2, 3}} {
				l, e = transform.Evaluate(f, a, 1, n)
				checkError(t, fmt.Sprintf("Evaluate at %d points", n), l, e, api.ErrInvalid)
			}
			if n < 0 || n > 1<<20 {
				continue
			}
			for i, a := range [][]uint64{make([]uint64, n), numbers(1, n)} {
				l, e = transform.Forward(f, a)
				checkError(t, fmt.Sprintf("Forward of list %d of %d numbers", i, n), l, e, api.ErrInvalid)
				l, e = transform.Inverse(f, a)
				checkError(t, fmt.Sprintf("Inverse of list %d of %d numbers", i, n), l, e, api.ErrInvalid)
				l, e = transform.Interpolate(f, a, 1)
				checkError(t, fmt.Sprintf("Interpolate of list %d of %d numbers", i, n), l, e, api.ErrInvalid)
			}
		}
	})
}

// P4.1: of the lengths up to 5000, exactly the powers of two that divide P - 1 are valid.
func TestAllLengths(t *testing.T) {
	forAllFields(t, func(t *testing.T, f field.Field) {
		valid := 0
		for n := range 5000 {
			if _, e := transform.Domain(f, 2, n); e == api.OK {
				valid++
			}
		}
		if want := bits.Len(uint(longest[f.P])); valid != want {
			t.Errorf("%d lengths are valid, not %d", valid, want)
		}
	})
}

// P4.1: shifts that are 0 after the reduction.
func TestInvalidShifts(t *testing.T) {
	forAllFields(t, func(t *testing.T, f field.Field) {
		for _, shift := range []uint64{0, f.P, math.MaxUint64 / f.P * f.P} {
			for _, n := range []int{1, 2, 16, 3, -1} {
				l, e := transform.Domain(f, shift, n)
				checkError(t, fmt.Sprintf("Domain(%d, %d)", shift, n), l, e, api.ErrInvalid)
				l, e = transform.Evaluate(f, []uint64{1, 2}, shift, n)
				checkError(t, fmt.Sprintf("Evaluate with %d at %d points", shift, n), l, e, api.ErrInvalid)
				l, e = transform.Interpolate(f, numbers(1, max(n, 0)), shift)
				checkError(t, fmt.Sprintf("Interpolate with %d and %d values", shift, n), l, e, api.ErrInvalid)
			}
		}
	})
}

// P4.1: ErrField precedes ErrInvalid, which precedes ErrTooLarge.
func TestOrderOfErrors(t *testing.T) {
	for _, p := range unknown {
		f := field.Field{P: p}
		for _, length := range []int{0, 1, 2, 3, 8192, 8193} {
			a := numbers(p, length)
			l, e := transform.Forward(f, a)
			checkError(t, fmt.Sprintf("modulo %d: Forward", p), l, e, api.ErrField)
			l, e = transform.Inverse(f, a)
			checkError(t, fmt.Sprintf("modulo %d: Inverse", p), l, e, api.ErrField)
			l, e = transform.Multiply(f, a, a)
			checkError(t, fmt.Sprintf("modulo %d: Multiply", p), l, e, api.ErrField)
			l, e = transform.Multiply(f, a, nil)
			checkError(t, fmt.Sprintf("modulo %d: Multiply by nothing", p), l, e, api.ErrField)
			l, e = transform.Multiply(f, nil, a)
			checkError(t, fmt.Sprintf("modulo %d: Multiply of nothing", p), l, e, api.ErrField)
			for _, shift := range []uint64{0, 1, p, p + 1} {
				l, e = transform.Interpolate(f, a, shift)
				checkError(t, fmt.Sprintf("modulo %d: Interpolate", p), l, e, api.ErrField)
				for _, n := range []int{-1, 0, 1, 2, 3, 4096, 8192} {
					l, e = transform.Domain(f, shift, n)
					checkError(t, fmt.Sprintf("modulo %d: Domain", p), l, e, api.ErrField)
					l, e = transform.Evaluate(f, a, shift, n)
					checkError(t, fmt.Sprintf("modulo %d: Evaluate", p), l, e, api.ErrField)
				}
			}
		}
	}
	forAllFields(t, func(t *testing.T, f field.Field) {
		a := numbers(1, 8193)
		for _, n := range invalidLengths(f.P) {
			l, e := transform.Evaluate(f, a, 1, n)
			checkError(t, fmt.Sprintf("Evaluate of a long list at %d points", n), l, e, api.ErrInvalid)
			l, e = transform.Evaluate(f, a, 0, n)
			checkError(t, fmt.Sprintf("Evaluate of a long list at %d points with 0", n), l, e, api.ErrInvalid)
		}
		for _, shift := range []uint64{0, f.P} {
			l, e := transform.Evaluate(f, a, shift, 4)
			checkError(t, "Evaluate of a long list with 0", l, e, api.ErrInvalid)
		}
	})
}

// P4.2: Inverse and Forward, and Interpolate and Evaluate, undo each other.
func TestRoundTrips(t *testing.T) {
	forAllLengths(t, func(t *testing.T, f field.Field, n int) {
		for i, a := range lists(f.P, n) {
			name, want := fmt.Sprintf("list %d of %d numbers", i, n), reduced(f.P, a)
			values, _ := transform.Forward(f, a)
			l, e := transform.Inverse(f, values)
			check(t, name+": Inverse of Forward", l, e, want)
			coefficients, _ := transform.Inverse(f, a)
			l, e = transform.Forward(f, coefficients)
			check(t, name+": Forward of Inverse", l, e, want)
			for _, shift := range shifts(f.P) {
				values, _ := transform.Evaluate(f, a, shift, n)
				l, e := transform.Interpolate(f, values, shift)
				check(t, fmt.Sprintf("%s: Interpolate of Evaluate with %d", name, shift), l, e, want)
				coefficients, _ := transform.Interpolate(f, a, shift)
				l, e = transform.Evaluate(f, coefficients, shift, n)
				check(t, fmt.Sprintf("%s: Evaluate of Interpolate with %d", name, shift), l, e, want)
			}
		}
	})
}

// P4.2: polynomials that are shorter than the domain get zeros at the end.
func TestRoundTripsOfShortPolynomials(t *testing.T) {
	forAllLengths(t, func(t *testing.T, f field.Field, n int) {
		for _, length := range []int{0, 1, n / 2, n - 1} {
			if length == n {
				continue
			}
			a := numbers(f.P, length)
			values, _ := transform.Evaluate(f, a, 5, n)
			l, e := transform.Interpolate(f, values, 5)
			check(t, fmt.Sprintf("%d of %d coefficients", length, n), l, e, append(reduced(f.P, a), make([]uint64, n-length)...))
		}
	})
}

// P4.2: the transforms of sums and multiples are the sums and multiples of the transforms.
func TestLinear(t *testing.T) {
	forAllLengths(t, func(t *testing.T, f field.Field, n int) {
		transforms := map[string]func(a []uint64) ([]uint64, api.Errno){
			"Forward":     func(a []uint64) ([]uint64, api.Errno) { return transform.Forward(f, a) },
			"Inverse":     func(a []uint64) ([]uint64, api.Errno) { return transform.Inverse(f, a) },
			"Evaluate":    func(a []uint64) ([]uint64, api.Errno) { return transform.Evaluate(f, a, 3, n) },
			"Interpolate": func(a []uint64) ([]uint64, api.Errno) { return transform.Interpolate(f, a, 3) },
			"Multiply": func(a []uint64) ([]uint64, api.Errno) {
				return transform.Multiply(f, a[:(n+1)/2], numbers(7, n/2+1))
			},
		}
		for name, apply := range transforms {
			for i, a := range lists(f.P, n) {
				b := numbers(f.P+uint64(i), n)
				u, _ := apply(a)
				v, _ := apply(b)
				l, e := apply(sum(f.P, a, b))
				check(t, fmt.Sprintf("%s: the sum for %d numbers", name, n), l, e, sum(f.P, u, v))
				l, e = apply(multiple(f.P, a, f.P-3))
				check(t, fmt.Sprintf("%s: the multiple for %d numbers", name, n), l, e, multiple(f.P, u, f.P-3))
			}
		}
	})
}

// P4.3: the values of a product are the products of the values, on any domain.
func TestValuesOfProducts(t *testing.T) {
	forAllLengths(t, func(t *testing.T, f field.Field, n int) {
		longer := longest[f.P]
		for _, m := range []int{1, longer / 3, longer/2 + 1, longer} {
			a, b := numbers(f.P, m), numbers(f.P+2, longer-m+1)
			c, e := transform.Multiply(f, a, b)
			if e != api.OK {
				t.Fatalf("%d by %d coefficients: %v", len(a), len(b), e)
			}
			for _, shift := range shifts(f.P) {
				u, _ := transform.Evaluate(f, a, shift, n)
				v, _ := transform.Evaluate(f, b, shift, n)
				for i := range u {
					u[i] = times(f.P, u[i], v[i])
				}
				w, e := transform.Evaluate(f, c, shift, n)
				check(t, fmt.Sprintf("the values of a product at %d points with %d", n, shift), w, e, u)
			}
		}
	})
}

// T1: transforms agree with the interpolation, the values and the products of layer 3.
func TestAgreementWithPoly(t *testing.T) {
	forAllFields(t, func(t *testing.T, f field.Field) {
		for n := 1; n <= min(longest[f.P], 128); n *= 2 {
			a, b := numbers(f.P, n), numbers(f.P+3, n/2+1)
			points, _ := transform.Domain(f, 3, n)
			values, _ := transform.Evaluate(f, b, 3, n)
			for i, x := range points {
				if values[i] != poly.Eval(f, b, x) {
					t.Errorf("the value %d at %d", values[i], x)
				}
			}
			want, _ := poly.Interpolate(f, points, a)
			coefficients, _ := transform.Interpolate(f, a, 3)
			check(t, "Interpolate", poly.Trim(f, coefficients), api.OK, want)
			l, e := transform.Multiply(f, a[:(n+1)/2], b)
			check(t, "Multiply", poly.Trim(f, l), e, poly.Mul(f, a[:(n+1)/2], b))
		}
	})
}

// P4.1: no argument is changed, not even the memory behind it, and no result
// shares memory with an argument.
func TestMemory(t *testing.T) {
	calls := map[string]func(f field.Field, a, b []uint64) []uint64{
		"Forward":     func(f field.Field, a, b []uint64) []uint64 { l, _ := transform.Forward(f, a); return l },
		"Inverse":     func(f field.Field, a, b []uint64) []uint64 { l, _ := transform.Inverse(f, a); return l },
		"Domain":      func(f field.Field, a, b []uint64) []uint64 { l, _ := transform.Domain(f, 3, len(a)); return l },
		"Evaluate":    func(f field.Field, a, b []uint64) []uint64 { l, _ := transform.Evaluate(f, a, 3, 4); return l },
		"at 1 point":  func(f field.Field, a, b []uint64) []uint64 { l, _ := transform.Evaluate(f, a, 1, 1); return l },
		"Interpolate": func(f field.Field, a, b []uint64) []uint64 { l, _ := transform.Interpolate(f, a, 3); return l },
		"Multiply":    func(f field.Field, a, b []uint64) []uint64 { l, _ := transform.Multiply(f, a, b); return l },
	}
	for name, call := range calls {
		for _, p := range []uint64{15, 17, api.Big} {
			for m := range 9 {
				for n := range 9 {
					checkMemory(t, name, func(a, b []uint64) []uint64 { return call(field.Field{P: p}, a, b) }, m, n)
				}
			}
		}
	}
}

func checkMemory(t *testing.T, name string, call func(a, b []uint64) []uint64, m, n int) {
	t.Helper()
	a, b := numbers(1, m+8), numbers(2, n+8) // 8 numbers behind each argument
	result := call(a[:m], b[:n])
	again := call(a[:m], b[:n])
	want := slices.Clone(again)
	result = result[:cap(result)]
	for i := range result {
		result[i] += 77
	}
	if !slices.Equal(a, numbers(1, m+8)) || !slices.Equal(b, numbers(2, n+8)) {
		t.Errorf("%s: an argument of %d and %d numbers is changed", name, m, n)
	}
	if !slices.Equal(again, want) || !slices.Equal(call(a[:m], b[:n]), want) {
		t.Errorf("%s: results for %d and %d numbers share memory", name, m, n)
	}
	// One list as both arguments.
	both := numbers(3, m)
	got, want := call(both, both), call(numbers(3, m), numbers(3, m))
	if !slices.Equal(got, want) || !slices.Equal(both, numbers(3, m)) {
		t.Errorf("%s of one list of %d numbers twice = %s, not %s", name, m, short(got), short(want))
	}
}

func BenchmarkForward(b *testing.B) {
	a := numbers(1, 4096)
	for b.Loop() {
		transform.Forward(field.Field{P: api.Big}, a)
	}
}

func BenchmarkMultiply(b *testing.B) {
	a, c := numbers(1, 2048), numbers(2, 2048)
	for b.Loop() {
		transform.Multiply(field.Field{P: api.Big}, a, c)
	}
}
