package extension_test

import (
	"math"
	"math/big"
	"math/bits"
	"testing"

	"moidore/api"
	"moidore/extension"
	"moidore/field"
)

type element = extension.Element

var zero, one, x = element{0, 0}, element{1, 0}, element{0, 1}

// unknown are numbers that are not known primes.
var unknown = []uint64{0, 1, 2, 3, 15, 16, 18, 19, 34, 96, 256, 65536, 17 * 97, 1<<61 - 1,
	api.Big - 1, api.Big + 1, math.MaxUint64}

// coordinates returns numbers at the edges of a field and beyond them, and some others.
func coordinates(p uint64, others int) []uint64 {
	l := []uint64{0, 1, 2, p - 1, p, p + 3, math.MaxUint64}
	for i, n := 0, p; i < others; i++ {
		n = n*6364136223846793005 + 1442695040888963407
		l = append(l, n>>(i%2*32))
	}
	return l
}

// elements returns all pairs of coordinates.
func elements(p uint64, others int) []element {
	var l []element
	for _, a := range coordinates(p, others) {
		for _, b := range coordinates(p, others) {
			l = append(l, element{a, b})
		}
	}
	return l
}

// forAllFields runs a test in each of the seven known fields.
func forAllFields(t *testing.T, test func(t *testing.T, f field.Field)) {
	t.Helper()
	known := field.Known()
	if len(known) != 7 {
		t.Fatalf("%d known primes", len(known))
	}
	for _, p := range known {
		t.Run(integer(p).String(), func(t *testing.T) { test(t, field.Field{P: p}) })
	}
}

func integer(n uint64) *big.Int { return new(big.Int).SetUint64(n) }

// combine returns the sum of the products of pairs of numbers, modulo p.
func combine(p uint64, pairs ...[2]*big.Int) uint64 {
	sum := new(big.Int)
	for _, c := range pairs {
		sum.Add(sum, new(big.Int).Mul(c[0], c[1]))
	}
	return sum.Mod(sum, integer(p)).Uint64()
}

// product is the definition of a product, with integers of any size.
func product(f field.Field, a, b element) element {
	a0, a1, b0, b1 := integer(a[0]), integer(a[1]), integer(b[0]), integer(b[1])
	return element{
		combine(f.P, [2]*big.Int{a0, b0}, [2]*big.Int{new(big.Int).Mul(a1, integer(f.Generator())), b1}),
		combine(f.P, [2]*big.Int{a0, b1}, [2]*big.Int{a1, b0}),
	}
}

// power returns the power of a with the exponent e, from its highest bit down.
func power(f field.Field, a element, e uint64) element {
	result := one
	for i := bits.Len64(e) - 1; i >= 0; i-- {
		result = product(f, result, result)
		if e>>i&1 == 1 {
			result = product(f, result, a)
		}
	}
	return result
}

func reduced(f field.Field, a element) element { return element{a[0] % f.P, a[1] % f.P} }

func TestDocumentExamples(t *testing.T) {
	f := field.Field{P: 17}
	if got := extension.Mul(f, element{1, 2}, element{3, 4}); got != (element{10, 10}) {
		t.Errorf("Mul = %v", got)
	}
	if got := extension.Norm(f, element{1, 2}); got != 6 {
		t.Errorf("Norm = %d", got)
	}
	if got := extension.Inv(f, element{1, 2}); got != (element{3, 11}) {
		t.Errorf("Inv = %v", got)
	}
	if got := extension.Mul(f, x, x); got != (element{3, 0}) {
		t.Errorf("X times X = %v", got)
	}
}

// P2.1: functions of two elements, also of elements that are not reduced.
func TestPairs(t *testing.T) {
	forAllFields(t, func(t *testing.T, f field.Field) {
		l := elements(f.P, 3)
		plus, minus := big.NewInt(1), big.NewInt(-1)
		for _, a := range l {
			for _, b := range l {
				var sum, difference element
				for i := range sum {
					sum[i] = combine(f.P, [2]*big.Int{plus, integer(a[i])}, [2]*big.Int{plus, integer(b[i])})
					difference[i] = combine(f.P, [2]*big.Int{plus, integer(a[i])}, [2]*big.Int{minus, integer(b[i])})
				}
				if got := extension.Add(f, a, b); got != sum {
					t.Errorf("Add(%v, %v) = %v, not %v", a, b, got, sum)
				}
				if got := extension.Sub(f, a, b); got != difference {
					t.Errorf("Sub(%v, %v) = %v, not %v", a, b, got, difference)
				}
				if got, want := extension.Mul(f, a, b), product(f, a, b); got != want {
					t.Errorf("Mul(%v, %v) = %v, not %v", a, b, got, want)
				}
			}
		}
	})
}

// P2.1: functions of one element, also of an element that is not reduced.
func TestSingleElements(t *testing.T) {
	forAllFields(t, func(t *testing.T, f field.Field) {
		for _, a := range elements(f.P, 12) {
			conjugate := element{a[0] % f.P, (f.P - a[1]%f.P) % f.P}
			if got := extension.Conjugate(f, a); got != conjugate {
				t.Errorf("Conjugate(%v) = %v, not %v", a, got, conjugate)
			}
			norm := product(f, a, conjugate)
			if got := extension.Norm(f, a); got != norm[0] || norm[1] != 0 {
				t.Errorf("Norm(%v) = %d, not %v", a, got, norm)
			}
			checkInverse(t, f, a)
			for _, n := range coordinates(f.P, 4) {
				if got, want := extension.Scale(f, a, n), product(f, a, element{n, 0}); got != want {
					t.Errorf("Scale(%v, %d) = %v, not %v", a, n, got, want)
				}
			}
		}
	})
}

// checkInverse tests an inverse by its product, and that it is reduced.
func checkInverse(t *testing.T, f field.Field, a element) {
	t.Helper()
	want := one
	if reduced(f, a) == zero {
		want = zero
	}
	inverse := extension.Inv(f, a)
	if got := product(f, a, inverse); got != want || inverse != reduced(f, inverse) || want == zero && inverse != zero {
		t.Errorf("Inv(%v) = %v, the product is %v", a, inverse, got)
	}
}

// P2.1: elements (a, 0) are the elements of the field.
func TestFieldElements(t *testing.T) {
	forAllFields(t, func(t *testing.T, f field.Field) {
		l := coordinates(f.P, 8)
		for _, m := range l {
			a := element{m, 0}
			for _, c := range []struct {
				name string
				got  element
				want uint64
			}{
				{"Inv", extension.Inv(f, a), f.Inv(m)},
				{"Conjugate", extension.Conjugate(f, a), f.Reduce(m)},
				{"Norm", element{extension.Norm(f, a), 0}, f.Mul(m, m)},
			} {
				if c.got != (element{c.want, 0}) {
					t.Errorf("%s(%v) = %v, not %d", c.name, a, c.got, c.want)
				}
			}
			for _, n := range l {
				b := element{n, 0}
				if extension.Add(f, a, b) != (element{f.Add(m, n), 0}) || extension.Sub(f, a, b) != (element{f.Sub(m, n), 0}) ||
					extension.Mul(f, a, b) != (element{f.Mul(m, n), 0}) || extension.Pow(f, a, n) != (element{f.Pow(m, n), 0}) ||
					extension.Scale(f, a, n) != (element{f.Mul(m, n), 0}) {
					t.Errorf("%v and %v differ from the elements of the field", a, b)
				}
			}
		}
	})
}

// P2.1: exponents are not reduced, whether they are below P or beyond it.
func TestPow(t *testing.T) {
	forAllFields(t, func(t *testing.T, f field.Field) {
		exponents := []uint64{0, 1, 2, 3, 4, 5, 16, 31, 32, f.P - 1, f.P, f.P + 1, f.P + 2, f.P * f.P, 1 << 32, 1 << 63,
			math.MaxUint64 - 1, math.MaxUint64}
		for _, a := range append(elements(f.P, 3), element{1, 2}, element{5, 6}) {
			for _, e := range exponents {
				if got, want := extension.Pow(f, a, e), power(f, a, e); got != want {
					t.Errorf("Pow(%v, %d) = %v, not %v", a, e, got, want)
				}
			}
		}
	})
}

func TestPowEdges(t *testing.T) {
	forAllFields(t, func(t *testing.T, f field.Field) {
		for _, a := range elements(f.P, 3) {
			if got := extension.Pow(f, a, 0); got != one {
				t.Errorf("Pow(%v, 0) = %v", a, got)
			}
			if got := extension.Pow(f, a, 1); got != reduced(f, a) {
				t.Errorf("Pow(%v, 1) = %v", a, got)
			}
		}
		for _, a := range []element{zero, {f.P, 0}, {0, f.P}, {f.P, f.P}} {
			for _, e := range []uint64{1, 2, f.P - 1, f.P, f.P + 1, math.MaxUint64} {
				if got := extension.Pow(f, a, e); got != zero {
					t.Errorf("Pow(%v, %d) = %v", a, e, got)
				}
			}
		}
	})
	f, product := field.Field{P: 17}, one
	for e := range uint64(1000) {
		if got := extension.Pow(f, element{1, 2}, e); got != product {
			t.Fatalf("Pow with the exponent %d = %v, not %v", e, got, product)
		}
		product = extension.Mul(f, product, element{1, 2})
	}
}

// P2.1: without a known prime all results are zero.
func TestFieldsThatAreNotValid(t *testing.T) {
	for _, p := range unknown {
		f := field.Field{P: p}
		for _, a := range elements(p, 1) {
			results := []element{extension.Inv(f, a), extension.Conjugate(f, a), {extension.Norm(f, a), 0}}
			for _, b := range elements(p, 1) {
				results = append(results, extension.Add(f, a, b), extension.Sub(f, a, b), extension.Mul(f, a, b))
			}
			for _, n := range []uint64{0, 1, 2, p, p + 1, math.MaxUint64} {
				results = append(results, extension.Pow(f, a, n), extension.Scale(f, a, n))
			}
			for i, got := range results {
				if got != zero {
					t.Errorf("modulo %d: result %d for %v is %v", p, i, a, got)
				}
			}
		}
	}
}

// P2.2: the elements are a field.
func TestFieldAxioms(t *testing.T) {
	forAllFields(t, func(t *testing.T, f field.Field) {
		l := []element{zero, one, x, {0, f.P - 1}, {f.P - 1, 0}, {1, 1}, {f.P - 2, f.P / 2}, {f.P + 7, math.MaxUint64}, {math.MaxUint64 / 3, 1 << 40}}
		for _, a := range l {
			if extension.Add(f, a, zero) != reduced(f, a) || extension.Mul(f, a, one) != reduced(f, a) ||
				extension.Add(f, a, extension.Sub(f, zero, a)) != zero || extension.Mul(f, a, zero) != zero {
				t.Errorf("%v and the neutral elements", a)
			}
			if extension.Mul(f, a, extension.Inv(f, a)) != one && reduced(f, a) != zero {
				t.Errorf("%v and its inverse", a)
			}
			for _, b := range l {
				for _, c := range l {
					checkLaws(t, f, a, b, c)
				}
			}
		}
	})
}

func checkLaws(t *testing.T, f field.Field, a, b, c element) {
	t.Helper()
	add := func(a, b element) element { return extension.Add(f, a, b) }
	mul := func(a, b element) element { return extension.Mul(f, a, b) }
	if add(a, b) != add(b, a) || mul(a, b) != mul(b, a) || add(extension.Sub(f, a, b), b) != reduced(f, a) {
		t.Errorf("%v and %v", a, b)
	}
	if add(add(a, b), c) != add(a, add(b, c)) || mul(mul(a, b), c) != mul(a, mul(b, c)) || mul(a, add(b, c)) != add(mul(a, b), mul(a, c)) {
		t.Errorf("%v, %v and %v", a, b, c)
	}
}

// P2.2: the whole extension of the field of 17 elements has no divisors of zero, and every other element has an inverse.
func TestAllElementsModulo17(t *testing.T) {
	f := field.Field{P: 17}
	for i := range uint64(289) {
		a := element{i / 17, i % 17}
		checkInverse(t, f, a)
		ones := 0
		for j := range uint64(289) {
			b := element{j / 17, j % 17}
			got := extension.Mul(f, a, b)
			if got != product(f, a, b) || (got == zero) != (a == zero || b == zero) {
				t.Errorf("%v times %v = %v", a, b, got)
			}
			if got == one {
				ones++
			}
		}
		if want := min(i, 1); ones != int(want) {
			t.Errorf("%v has %d inverses", a, ones)
		}
	}
}

// P2.2: the norm of a product is the product of the norms.
func TestNormOfProduct(t *testing.T) {
	forAllFields(t, func(t *testing.T, f field.Field) {
		l := elements(f.P, 3)
		for _, a := range l {
			for _, b := range l {
				got, want := extension.Norm(f, extension.Mul(f, a, b)), f.Mul(extension.Norm(f, a), extension.Norm(f, b))
				if got != want {
					t.Errorf("the norm of %v times %v = %d, not %d", a, b, got, want)
				}
			}
		}
	})
}

// P2.2: only (0, 0) has the norm 0. In the greater fields this follows from
// the generator, which is not a square.
func TestNormZero(t *testing.T) {
	forAllFields(t, func(t *testing.T, f field.Field) {
		if f.Pow(f.Generator(), (f.P-1)/2) != f.P-1 {
			t.Error("the generator is a square")
		}
		for _, a := range elements(f.P, 12) {
			if (extension.Norm(f, a) == 0) != (reduced(f, a) == zero) {
				t.Errorf("Norm(%v) = %d", a, extension.Norm(f, a))
			}
		}
		if f.P > 257 {
			return
		}
		for i := range f.P * f.P {
			if a := (element{i / f.P, i % f.P}); (extension.Norm(f, a) == 0) != (a == zero) {
				t.Errorf("Norm(%v) = %d", a, extension.Norm(f, a))
			}
		}
	})
}

// P2.2: Pow with the exponent P is the conjugate, so with P + 1 it is the norm.
func TestPowWithExponentP(t *testing.T) {
	forAllFields(t, func(t *testing.T, f field.Field) {
		for _, a := range elements(f.P, 12) {
			if got, want := extension.Pow(f, a, f.P), extension.Conjugate(f, a); got != want {
				t.Errorf("Pow(%v, P) = %v, not %v", a, got, want)
			}
			if got, want := extension.Pow(f, a, f.P+1), (element{extension.Norm(f, a), 0}); got != want {
				t.Errorf("Pow(%v, P + 1) = %v, not %v", a, got, want)
			}
			if got := extension.Pow(f, extension.Pow(f, a, f.P), f.P); got != reduced(f, a) {
				t.Errorf("Pow(%v, P) twice = %v", a, got)
			}
		}
	})
}

func BenchmarkPow(b *testing.B) {
	f := field.Field{P: api.Big}
	a := element{1, 2}
	for b.Loop() {
		a = extension.Pow(f, a, math.MaxUint64)
	}
}
