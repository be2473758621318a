package poly_test

import (
	"fmt"
	"math"
	"math/big"
	"slices"
	"testing"

	"moidore/api"
	"moidore/field"
	"moidore/poly"
)

// unknown are numbers that are not known primes.
var unknown = []uint64{0, 1, 2, 3, 15, 16, 18, 19, 34, 96, 256, 65536, 17 * 97, 1<<61 - 1,
	api.Big - 1, api.Big + 1, math.MaxUint64}

// forAllFields runs a test in each of the seven known fields.
func forAllFields(t *testing.T, test func(t *testing.T, f field.Field)) {
	t.Helper()
	known := field.Known()
	if len(known) != 7 {
		t.Fatalf("%d known primes", len(known))
	}
	for _, p := range known {
		t.Run(fmt.Sprint(p), func(t *testing.T) { test(t, field.Field{P: p}) })
	}
}

// numbers returns n numbers of 64 bits that follow from a seed; some of them are small.
func numbers(seed uint64, n int) []uint64 {
	l := make([]uint64, n)
	for i := range l {
		seed = seed*6364136223846793005 + 1442695040888963407
		l[i] = seed >> 33
		if i%2 == 1 {
			l[i] |= seed << 31
		}
	}
	return l
}

// points returns numbers at the edges of a field and beyond them, and some others.
func points(p uint64) []uint64 {
	return append([]uint64{0, 1, 2, 3, p - 1, p, p + 5, 7 * (p / 2), 1 << 63, math.MaxUint64}, numbers(p, 4)...)
}

// polynomials returns lists of which some are zero, constant, not reduced or not in normal form.
func polynomials(p uint64) [][]uint64 {
	l := [][]uint64{
		nil, {}, {0}, {p}, {0, p, 0},
		{1}, {p - 1}, {p + 1}, {5, 0, p}, {math.MaxUint64},
		{0, 1}, {p, p + 1}, {p - 1, 1}, {3, p - 1, 0, 0}, {math.MaxUint64, math.MaxUint64 - 1},
		{8, 0, 1}, {p - 1, 0, p + 1}, {0, 0, p - 1, p}, {p - 1, p - 1, p - 1}, {1, 2, 1}, {1, 3, 3, 1},
		{p - 1, 0, 0, 0, 0, 1}, {0, 0, 0, 0, 0, 0, 2},
	}
	for i := range 6 {
		l = append(l, numbers(p+uint64(i), i+2))
	}
	return append(l, append(numbers(p+7, 9), p, 0, p))
}

// The reference below calculates with integers of any size.

func integer(n uint64) *big.Int { return new(big.Int).SetUint64(n) }

// normal returns integers modulo p, without zeros at the end.
func normal(p uint64, l []*big.Int) []uint64 {
	var result []uint64
	for _, n := range l {
		result = append(result, new(big.Int).Mod(n, integer(p)).Uint64())
	}
	for len(result) > 0 && result[len(result)-1] == 0 {
		result = result[:len(result)-1]
	}
	return result
}

func reduced(p uint64, a []uint64) []uint64 {
	var l []*big.Int
	for _, n := range a {
		l = append(l, integer(n))
	}
	return normal(p, l)
}

// sum returns a + b * sign.
func sum(p uint64, a, b []uint64, sign int64) []uint64 {
	l := make([]*big.Int, max(len(a), len(b)))
	for i := range l {
		l[i] = new(big.Int)
		if i < len(a) {
			l[i].Add(l[i], integer(a[i]))
		}
		if i < len(b) {
			l[i].Add(l[i], new(big.Int).Mul(integer(b[i]), big.NewInt(sign)))
		}
	}
	return normal(p, l)
}

func product(p uint64, a, b []uint64) []uint64 {
	l := make([]*big.Int, len(a)+len(b))
	for i := range l {
		l[i] = new(big.Int)
	}
	for i := range a {
		for j := range b {
			l[i+j].Add(l[i+j], new(big.Int).Mul(integer(a[i]), integer(b[j])))
		}
	}
	return normal(p, l)
}

func value(p uint64, a []uint64, x uint64) uint64 {
	result, power := new(big.Int), big.NewInt(1)
	for _, n := range a {
		result.Add(result, new(big.Int).Mul(integer(n), power))
		power.Mod(power.Mul(power, integer(x)), integer(p))
	}
	return result.Mod(result, integer(p)).Uint64()
}

// checkDivision tests the definition of a quotient and a remainder: there is only one of each.
func checkDivision(t *testing.T, p uint64, a, b, quotient, remainder []uint64) {
	t.Helper()
	if !slices.Equal(quotient, reduced(p, quotient)) || !slices.Equal(remainder, reduced(p, remainder)) {
		t.Errorf("%v by %v: %v and %v are not in normal form", a, b, quotient, remainder)
	}
	if got := sum(p, product(p, quotient, b), remainder, 1); !slices.Equal(got, reduced(p, a)) {
		t.Errorf("%v by %v = %v with the remainder %v", a, b, quotient, remainder)
	}
	if len(remainder) >= len(reduced(p, b)) {
		t.Errorf("%v by %v has the remainder %v", a, b, remainder)
	}
}

func TestDocumentExamples(t *testing.T) {
	f := field.Field{P: 17}
	a := poly.Mul(f, []uint64{3, 1}, []uint64{14, 1})
	if !slices.Equal(a, []uint64{8, 0, 1}) {
		t.Errorf("Mul = %v", a)
	}
	if q, r, e := poly.DivMod(f, a, []uint64{1, 1}); !slices.Equal(q, []uint64{16, 1}) || !slices.Equal(r, []uint64{9}) || e != api.OK {
		t.Errorf("DivMod = %v, %v, %v", q, r, e)
	}
	if got, e := poly.Interpolate(f, []uint64{0, 1, 2}, []uint64{1, 2, 5}); !slices.Equal(got, []uint64{1, 0, 1}) || e != api.OK {
		t.Errorf("Interpolate = %v, %v", got, e)
	}
}

// P3.1: functions of one polynomial, also of one that is not in normal form.
func TestSinglePolynomials(t *testing.T) {
	forAllFields(t, func(t *testing.T, f field.Field) {
		for _, a := range polynomials(f.P) {
			want := reduced(f.P, a)
			if got := poly.Trim(f, a); !slices.Equal(got, want) {
				t.Errorf("Trim(%v) = %v, not %v", a, got, want)
			}
			if got := poly.Degree(f, a); got != len(want)-1 {
				t.Errorf("Degree(%v) = %d, not %d", a, got, len(want)-1)
			}
			for _, x := range points(f.P) {
				if got, want := poly.Scale(f, a, x), product(f.P, a, []uint64{x}); !slices.Equal(got, want) {
					t.Errorf("Scale(%v, %d) = %v, not %v", a, x, got, want)
				}
				if got, want := poly.Eval(f, a, x), value(f.P, a, x); got != want {
					t.Errorf("Eval(%v, %d) = %d, not %d", a, x, got, want)
				}
			}
		}
	})
}

// P3.1: functions of two polynomials.
func TestPairs(t *testing.T) {
	forAllFields(t, func(t *testing.T, f field.Field) {
		for _, a := range polynomials(f.P) {
			for _, b := range polynomials(f.P) {
				if got, want := poly.Add(f, a, b), sum(f.P, a, b, 1); !slices.Equal(got, want) {
					t.Errorf("Add(%v, %v) = %v, not %v", a, b, got, want)
				}
				if got, want := poly.Sub(f, a, b), sum(f.P, a, b, -1); !slices.Equal(got, want) {
					t.Errorf("Sub(%v, %v) = %v, not %v", a, b, got, want)
				}
				if got, want := poly.Mul(f, a, b), product(f.P, a, b); !slices.Equal(got, want) {
					t.Errorf("Mul(%v, %v) = %v, not %v", a, b, got, want)
				}
				checkDivMod(t, f, a, b)
				checkGCD(t, f, a, b)
			}
		}
	})
}

func checkDivMod(t *testing.T, f field.Field, a, b []uint64) {
	t.Helper()
	quotient, remainder, e := poly.DivMod(f, a, b)
	if len(reduced(f.P, b)) > 0 {
		if e != api.OK {
			t.Errorf("DivMod(%v, %v): %v", a, b, e)
		}
		checkDivision(t, f.P, a, b, quotient, remainder)
		return
	}
	if e != api.ErrInvalid || len(quotient) > 0 || len(remainder) > 0 {
		t.Errorf("DivMod(%v, %v) = %v, %v, %v", a, b, quotient, remainder, e)
	}
}

// checkGCD tests that a divisor divides two polynomials, and that the
// quotients have no common divisor. They have none if and only if a sum of
// multiples of them is 1, which the extended algorithm of Euclid finds.
func checkGCD(t *testing.T, f field.Field, a, b []uint64) {
	t.Helper()
	g := poly.GCD(f, a, b)
	if len(reduced(f.P, a)) == 0 && len(reduced(f.P, b)) == 0 {
		if len(g) > 0 {
			t.Errorf("GCD(%v, %v) = %v", a, b, g)
		}
		return
	}
	if !slices.Equal(g, reduced(f.P, g)) || len(g) == 0 || g[len(g)-1] != 1 {
		t.Fatalf("GCD(%v, %v) = %v", a, b, g)
	}
	s, r, _ := poly.DivMod(f, a, g)
	checkDivision(t, f.P, a, g, s, r)
	u, v, _ := poly.DivMod(f, b, g)
	checkDivision(t, f.P, b, g, u, v)
	if len(r) > 0 || len(v) > 0 || !coprime(t, f, s, u) {
		t.Errorf("GCD(%v, %v) = %v", a, b, g)
	}
}

// coprime exhibits a sum of multiples of two polynomials that is a constant but not 0.
func coprime(t *testing.T, f field.Field, a, b []uint64) bool {
	t.Helper()
	x, y := [2][]uint64{{1}, nil}, [2][]uint64{nil, {1}}
	c, d := a, b
	for len(d) > 0 {
		quotient, remainder, _ := poly.DivMod(f, c, d)
		checkDivision(t, f.P, c, d, quotient, remainder)
		for i := range x {
			x[i], y[i] = y[i], sum(f.P, x[i], product(f.P, quotient, y[i]), -1)
		}
		c, d = d, remainder
	}
	return len(sum(f.P, product(f.P, a, x[0]), product(f.P, b, x[1]), 1)) == 1
}

// P3.1: a common divisor of greatest degree, among all polynomials of small degree modulo 17.
func TestGreatestDivisors(t *testing.T) {
	f := field.Field{P: 17}
	var divisors [][]uint64
	for i := range uint64(17 * 17) {
		divisors = append(divisors, []uint64{i % 17, i / 17, 1})
		if i < 17 {
			divisors = append(divisors, []uint64{i, 1})
		}
	}
	for i := range uint64(40) {
		a := poly.Scale(f, poly.Vanishing(f, []uint64{i, i * i}), i+1)
		for j := range uint64(40) {
			b := poly.Vanishing(f, []uint64{j, i, 3 * j}[:1+j%3])
			want := []uint64{1}
			for _, d := range divisors {
				_, r, _ := poly.DivMod(f, a, d)
				_, s, _ := poly.DivMod(f, b, d)
				if len(r) == 0 && len(s) == 0 && len(d) > len(want) {
					want = d
				}
			}
			if len(a) == 0 {
				want = b
			}
			if got := poly.GCD(f, a, b); !slices.Equal(got, want) {
				t.Errorf("GCD(%v, %v) = %v, not %v", a, b, got, want)
			}
		}
	}
}

// P3.1: the greatest common divisor of products of factors X - x is the product of those that both have.
func TestGCDOfProducts(t *testing.T) {
	forAllFields(t, func(t *testing.T, f field.Field) {
		a := poly.Scale(f, poly.Vanishing(f, []uint64{1, 2, 2, 3, 5, 5, 5}), f.P-2)
		b := poly.Scale(f, poly.Vanishing(f, []uint64{f.P + 2, 5, 4, 2, 2, 5, 7}), 3)
		want := poly.Vanishing(f, []uint64{2, 2, 5, 5})
		if got := poly.GCD(f, a, b); !slices.Equal(got, want) {
			t.Errorf("GCD = %v, not %v", got, want)
		}
		if got := poly.GCD(f, b, a); !slices.Equal(got, want) {
			t.Errorf("GCD = %v, not %v", got, want)
		}
	})
}

// P3.1: the products of X - x, with points that are not reduced or occur twice.
func TestVanishing(t *testing.T) {
	forAllFields(t, func(t *testing.T, f field.Field) {
		all := append(points(f.P), points(f.P)...)
		want := []uint64{1}
		for i := range all {
			if got := poly.Vanishing(f, all[:i]); !slices.Equal(got, want) {
				t.Fatalf("Vanishing(%v) = %v, not %v", all[:i], got, want)
			}
			want = product(f.P, want, []uint64{f.P - all[i]%f.P, 1})
		}
		if got, want := poly.Vanishing(f, []uint64{4, f.P + 4}), []uint64{16, f.P - 8, 1}; !slices.Equal(got, reduced(f.P, want)) {
			t.Errorf("Vanishing of a point that occurs twice = %v", got)
		}
	})
}

// P3.1: interpolation at points and with values that are not reduced.
func TestInterpolate(t *testing.T) {
	forAllFields(t, func(t *testing.T, f field.Field) {
		var xs []uint64
		for i := range uint64(13) {
			xs = append(xs, (i*5+2)%13+f.P*(i%2))
		}
		lists := [][]uint64{make([]uint64, 13), slices.Repeat([]uint64{f.P}, 13), slices.Repeat([]uint64{f.P + 2}, 13),
			slices.Clone(xs), numbers(1, 13), numbers(f.P, 13)}
		for _, ys := range lists {
			for n := range len(xs) + 1 {
				checkInterpolation(t, f, xs[:n], ys[:n])
			}
		}
		for _, empty := range [][]uint64{nil, {}} {
			if got, e := poly.Interpolate(f, empty, nil); len(got) > 0 || e != api.OK {
				t.Errorf("without points: %v, %v", got, e)
			}
		}
	})
}

// checkInterpolation tests the definition: there is only one such polynomial.
func checkInterpolation(t *testing.T, f field.Field, xs, ys []uint64) {
	t.Helper()
	a, e := poly.Interpolate(f, xs, ys)
	if e != api.OK || len(a) > len(xs) || !slices.Equal(a, reduced(f.P, a)) {
		t.Errorf("Interpolate(%v, %v) = %v, %v", xs, ys, a, e)
	}
	for i, x := range xs {
		if got := value(f.P, a, x); got != ys[i]%f.P {
			t.Errorf("Interpolate(%v, %v) = %v has the value %d at %d", xs, ys, a, got, x)
		}
	}
}

// P3.1: points that are equal modulo P, wherever they are, and lists of different lengths.
func TestInterpolateErrors(t *testing.T) {
	forAllFields(t, func(t *testing.T, f field.Field) {
		for i := range 6 {
			for j := range i {
				for _, beyond := range []uint64{0, f.P} {
					xs := []uint64{0, 1, 2, 3, 4, 5}
					xs[i] = xs[j] + beyond
					checkRefused(t, f, xs, []uint64{0, 0, 0, 0, 0, 0}, api.ErrInvalid)
					checkRefused(t, f, xs, xs, api.ErrInvalid)
					checkRefused(t, f, xs, []uint64{1, 2, 3, 4, 5, 6}, api.ErrInvalid)
				}
			}
		}
		for m := range 4 {
			for n := range 4 {
				if m != n {
					checkRefused(t, f, []uint64{1, 2, 3}[:m], []uint64{4, 5, 6}[:n], api.ErrInvalid)
				}
			}
		}
		checkRefused(t, f, []uint64{1, 1}, []uint64{1}, api.ErrInvalid)
	})
}

func checkRefused(t *testing.T, f field.Field, xs, ys []uint64, want api.Errno) {
	t.Helper()
	if got, e := poly.Interpolate(f, xs, ys); len(got) > 0 || e != want {
		t.Errorf("Interpolate(%v, %v) = %v, %v", xs, ys, got, e)
	}
}

// P3.1: interpolation at all points of small fields, and at one point more.
func TestInterpolateAtAllPoints(t *testing.T) {
	for _, p := range []uint64{17, 97, 193, 257} {
		f := field.Field{P: p}
		var xs, ys []uint64
		for i := range p {
			xs, ys = append(xs, i), append(ys, i%3)
		}
		checkInterpolation(t, f, xs, ys)
		checkRefused(t, f, append(xs, 0), append(ys, 0), api.ErrInvalid)
		if got, want := poly.Vanishing(f, xs), sum(p, append(make([]uint64, p), 1), []uint64{0, 1}, -1); !slices.Equal(got, want) {
			t.Errorf("the product of X - x for all x is %v", got)
		}
	}
}

// P3.1: more points than a field has are refused, however many they are.
func TestManyPoints(t *testing.T) {
	l := make([]uint64, 1<<20)
	for i := range l {
		l[i] = uint64(i)
	}
	for _, p := range []uint64{17, 97, 193, 257} {
		checkRefused(t, field.Field{P: p}, l, l, api.ErrInvalid)
	}
}

// P3.1: without a known prime all polynomials are zero, and ErrField is checked first.
func TestFieldsThatAreNotValid(t *testing.T) {
	for _, p := range unknown {
		f := field.Field{P: p}
		lists := [][]uint64{nil, {0}, {1}, {p}, {1, 1}, {3, 4, 5}, {3, 3}, {p + 1, p + 2}}
		for _, a := range lists {
			if poly.Degree(f, a) != -1 || poly.Eval(f, a, 1) != 0 || poly.Eval(f, a, 0) != 0 {
				t.Errorf("modulo %d: Degree or Eval of %v", p, a)
			}
			results := [][]uint64{poly.Trim(f, a), poly.Scale(f, a, 0), poly.Scale(f, a, 1), poly.Vanishing(f, a)}
			for _, b := range lists {
				q, r, e := poly.DivMod(f, a, b)
				if e != api.ErrField {
					t.Errorf("modulo %d: DivMod(%v, %v): %v", p, a, b, e)
				}
				checkRefused(t, f, a, b, api.ErrField)
				results = append(results, poly.Add(f, a, b), poly.Sub(f, a, b), poly.Mul(f, a, b), poly.GCD(f, a, b), q, r)
			}
			for i, got := range results {
				if len(got) > 0 {
					t.Errorf("modulo %d: result %d for %v is %v", p, i, a, got)
				}
			}
		}
	}
}

// P3.2: polynomials are a ring, and Eval at any point respects its operations.
func TestRing(t *testing.T) {
	forAllFields(t, func(t *testing.T, f field.Field) {
		p := f.P
		l := [][]uint64{nil, {1}, {0, 1}, {p - 1}, {p - 1, 1}, {p + 3, p, 2, 0}, {1, p - 2, 1}, numbers(p, 4), numbers(p+1, 6)}
		for _, a := range l {
			if !slices.Equal(poly.Add(f, a, nil), poly.Trim(f, a)) || !slices.Equal(poly.Mul(f, a, []uint64{1}), poly.Trim(f, a)) ||
				len(poly.Sub(f, a, a)) > 0 || len(poly.Mul(f, a, nil)) > 0 ||
				!slices.Equal(poly.Scale(f, a, p-1), poly.Sub(f, nil, a)) {
				t.Errorf("%v and the neutral elements", a)
			}
			for _, b := range l {
				checkValues(t, f, a, b)
				for _, c := range l {
					checkLaws(t, f, a, b, c)
				}
			}
		}
	})
}

func checkLaws(t *testing.T, f field.Field, a, b, c []uint64) {
	t.Helper()
	add := func(a, b []uint64) []uint64 { return poly.Add(f, a, b) }
	mul := func(a, b []uint64) []uint64 { return poly.Mul(f, a, b) }
	for i, pair := range [][2][]uint64{
		{add(a, b), add(b, a)},
		{mul(a, b), mul(b, a)},
		{add(add(a, b), c), add(a, add(b, c))},
		{mul(mul(a, b), c), mul(a, mul(b, c))},
		{mul(a, add(b, c)), add(mul(a, b), mul(a, c))},
		{add(poly.Sub(f, a, b), b), poly.Trim(f, a)},
	} {
		if !slices.Equal(pair[0], pair[1]) {
			t.Errorf("law %d for %v, %v and %v: %v and %v", i, a, b, c, pair[0], pair[1])
		}
	}
}

func checkValues(t *testing.T, f field.Field, a, b []uint64) {
	t.Helper()
	for _, x := range points(f.P) {
		u, v := poly.Eval(f, a, x), poly.Eval(f, b, x)
		if poly.Eval(f, poly.Add(f, a, b), x) != f.Add(u, v) || poly.Eval(f, poly.Sub(f, a, b), x) != f.Sub(u, v) ||
			poly.Eval(f, poly.Mul(f, a, b), x) != f.Mul(u, v) || poly.Eval(f, poly.Scale(f, a, x), x) != f.Mul(u, x) {
			t.Errorf("the values of %v and %v at %d", a, b, x)
		}
		if q, r, e := poly.DivMod(f, a, b); e == api.OK && u != f.Add(f.Mul(poly.Eval(f, q, x), v), poly.Eval(f, r, x)) {
			t.Errorf("the values of %v by %v at %d", a, b, x)
		}
	}
	if poly.Degree(f, a) >= 0 && poly.Degree(f, b) >= 0 && poly.Degree(f, poly.Mul(f, a, b)) != poly.Degree(f, a)+poly.Degree(f, b) {
		t.Errorf("the degree of %v times %v", a, b)
	}
}

// P3.2: a polynomial that is not zero has at most as many zeros as its degree.
func TestZeros(t *testing.T) {
	f := field.Field{P: 17}
	for i := range uint64(17 * 17 * 17) {
		checkZeros(t, f, []uint64{i % 17, i / 17 % 17, i / 17 / 17})
	}
	for _, p := range []uint64{97, 193, 257} {
		f := field.Field{P: p}
		for _, a := range polynomials(p) {
			checkZeros(t, f, a)
		}
		for n := range p {
			if n%7 == 0 {
				var xs []uint64
				for i := range n {
					xs = append(xs, i*3)
				}
				if zeros := checkZeros(t, f, poly.Vanishing(f, xs)); zeros != int(n) {
					t.Errorf("modulo %d: %d zeros of a product of %d factors", p, zeros, n)
				}
			}
		}
	}
}

// checkZeros counts the zeros of a polynomial.
func checkZeros(t *testing.T, f field.Field, a []uint64) int {
	t.Helper()
	zeros := 0
	for x := range f.P {
		if poly.Eval(f, a, x) == 0 {
			zeros++
		}
	}
	if degree := poly.Degree(f, a); degree >= 0 && zeros > degree || degree < 0 && zeros != int(f.P) {
		t.Errorf("modulo %d: %v has %d zeros", f.P, a, zeros)
	}
	return zeros
}

// P3.2: interpolating the values at more points than the degree yields the polynomial.
func TestInterpolateValues(t *testing.T) {
	forAllFields(t, func(t *testing.T, f field.Field) {
		for _, a := range polynomials(f.P) {
			want := poly.Trim(f, a)
			for n := len(want); n <= min(len(want)+3, 16); n++ {
				var xs, ys []uint64
				for i := range n {
					xs = append(xs, uint64(i)*uint64(i+1)/2*3+f.P-1) // different modulo 17 for i < 9
				}
				if n > 9 {
					for i := range xs {
						xs[i] = uint64(i) * 11
					}
				}
				for _, x := range xs {
					ys = append(ys, poly.Eval(f, a, x))
				}
				if got, e := poly.Interpolate(f, xs, ys); !slices.Equal(got, want) || e != api.OK {
					t.Errorf("Interpolate(%v, %v) = %v, %v, not %v", xs, ys, got, e, want)
				}
			}
		}
	})
}

// P3.1: no argument is changed, not even the memory behind it, and no result
// shares memory with an argument or with another result.
func TestMemory(t *testing.T) {
	calls := map[string]func(f field.Field, a, b []uint64) [][]uint64{
		"Trim":   func(f field.Field, a, b []uint64) [][]uint64 { return [][]uint64{poly.Trim(f, a), poly.Trim(f, b)} },
		"Degree": func(f field.Field, a, b []uint64) [][]uint64 { poly.Degree(f, a); return nil },
		"Add":    func(f field.Field, a, b []uint64) [][]uint64 { return [][]uint64{poly.Add(f, a, b)} },
		"Sub":    func(f field.Field, a, b []uint64) [][]uint64 { return [][]uint64{poly.Sub(f, a, b)} },
		"Mul":    func(f field.Field, a, b []uint64) [][]uint64 { return [][]uint64{poly.Mul(f, a, b)} },
		"Scale":  func(f field.Field, a, b []uint64) [][]uint64 { return [][]uint64{poly.Scale(f, a, 1)} },
		"Eval":   func(f field.Field, a, b []uint64) [][]uint64 { poly.Eval(f, a, 3); return nil },
		"DivMod": func(f field.Field, a, b []uint64) [][]uint64 {
			q, r, _ := poly.DivMod(f, a, b)
			return [][]uint64{q, r}
		},
		"GCD":         func(f field.Field, a, b []uint64) [][]uint64 { return [][]uint64{poly.GCD(f, a, b)} },
		"Interpolate": func(f field.Field, a, b []uint64) [][]uint64 { c, _ := poly.Interpolate(f, a, b); return [][]uint64{c} },
		"Vanishing":   func(f field.Field, a, b []uint64) [][]uint64 { return [][]uint64{poly.Vanishing(f, a)} },
	}
	for name, call := range calls {
		for _, p := range []uint64{15, 17, api.Big} {
			for _, a := range memoryLists(p) {
				for _, b := range memoryLists(p) {
					checkMemory(t, name, func(a, b []uint64) [][]uint64 { return call(field.Field{P: p}, a, b) }, a, b)
				}
			}
		}
	}
}

// memoryLists returns lists for which a function could return an argument itself.
func memoryLists(p uint64) [][]uint64 {
	return [][]uint64{nil, {0}, {1}, {p}, {2, 1}, {p + 2, p + 1, p}, {5, 6, 7, 1}, {0, 3, 2, 1}, {0, p, 1, 2}}
}

func checkMemory(t *testing.T, name string, call func(a, b []uint64) [][]uint64, a, b []uint64) {
	t.Helper()
	const behind = 8 // numbers behind each argument
	whole := [][]uint64{append(slices.Clone(a), make([]uint64, behind)...), append(slices.Clone(b), make([]uint64, behind)...)}
	before := [][]uint64{slices.Clone(whole[0]), slices.Clone(whole[1])}
	results := call(whole[0][:len(a)], whole[1][:len(b)])
	for i := range results {
		others := append(slices.Clone(results[:i]), results[i+1:]...)
		copies := make([][]uint64, len(others))
		for j := range others {
			copies[j] = slices.Clone(others[j])
		}
		for j := range results[i][:cap(results[i])] {
			results[i][:cap(results[i])][j] += 77
		}
		for j := range others {
			if !slices.Equal(others[j], copies[j]) {
				t.Errorf("%s(%v, %v): results share memory", name, a, b)
			}
		}
	}
	for i := range whole {
		if !slices.Equal(whole[i], before[i]) {
			t.Errorf("%s(%v, %v): argument %d became %v", name, a, b, i, whole[i])
		}
	}
	// One list as both arguments.
	both := slices.Clone(a)
	got, want := call(both, both), call(slices.Clone(a), slices.Clone(a))
	for i := range got {
		if !slices.Equal(got[i], want[i]) || !slices.Equal(both, a) {
			t.Errorf("%s(%v) with one list twice = %v, not %v", name, a, got[i], want[i])
		}
	}
}

// distinct returns n different points and n values.
func distinct(n int) ([]uint64, []uint64) {
	xs := make([]uint64, n)
	for i := range xs {
		xs[i] = uint64(i) << 40
	}
	return xs, numbers(1, n)
}

func BenchmarkMul(b *testing.B) {
	a, c := numbers(1, 512), numbers(2, 512)
	for b.Loop() {
		poly.Mul(field.Field{P: api.Big}, a, c)
	}
}

func BenchmarkInterpolate(b *testing.B) {
	xs, ys := distinct(512)
	for b.Loop() {
		poly.Interpolate(field.Field{P: api.Big}, xs, ys)
	}
}
