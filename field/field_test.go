package field_test

import (
	"math"
	"math/big"
	"slices"
	"testing"

	"moidore/api"
	"moidore/field"
)

// unknown are numbers that are not known primes: other primes, composite
// numbers, multiples and neighbours of the known primes.
var unknown = []uint64{0, 1, 2, 3, 5, 16, 18, 19, 34, 96, 98, 192, 194, 256, 258, 12288, 12290, 65536, 65538,
	1<<31 - 1, 1 << 32, 17 * 97, api.Big - 1, api.Big + 1, math.MaxUint64}

// samples returns edge cases and some further numbers, many of them not reduced.
func samples(p uint64, further int) []uint64 {
	l := []uint64{0, 1, 2, 3, p / 2, p/2 + 1, p - 2, p - 1, p, p + 1, p + 5,
		1<<32 - 1, 1 << 32, 1<<32 + 1, 1<<63 - 1, 1 << 63, math.MaxUint64 - 1, math.MaxUint64}
	n := p
	for range further {
		n = n*6364136223846793005 + 1442695040888963407
		l = append(l, n, n>>32, n%max(p, 1))
	}
	return l
}

func number(n uint64) *big.Int { return new(big.Int).SetUint64(n) }

// modulo returns n modulo p, not negative.
func modulo(n *big.Int, p uint64) uint64 { return new(big.Int).Mod(n, number(p)).Uint64() }

// inverse returns the inverse of a modulo p, or 0.
func inverse(a, p uint64) uint64 {
	if a %= p; a == 0 {
		return 0
	}
	return new(big.Int).ModInverse(number(a), number(p)).Uint64()
}

// divisors returns the prime divisors of n, which has none above 2^17.
func divisors(t *testing.T, n uint64) []uint64 {
	var l []uint64
	for d := uint64(2); d <= 1<<17 && n > 1; d++ {
		if n%d == 0 {
			l = append(l, d)
		}
		for n%d == 0 {
			n /= d
		}
	}
	if n != 1 {
		t.Fatalf("%d is left", n)
	}
	return l
}

func gcd(a, b uint64) uint64 {
	for b != 0 {
		a, b = b, a%b
	}
	return a
}

func TestKnown(t *testing.T) {
	want := []uint64{17, 97, 193, 257, 12289, 65537, 18446744069414584321}
	l := field.Known()
	if !slices.Equal(l, want) {
		t.Fatalf("Known = %v", l)
	}
	for _, p := range l {
		if !(field.Field{P: p}).Valid() {
			t.Errorf("%d is not valid", p)
		}
		if !number(p).ProbablyPrime(20) {
			t.Errorf("%d is not a prime", p)
		}
	}
	clear(l)
	if !slices.Equal(field.Known(), want) {
		t.Error("the result of Known shares memory")
	}
	for p := range uint64(70000) {
		if (field.Field{P: p}).Valid() != slices.Contains(want, p) {
			t.Errorf("Valid of %d", p)
		}
	}
	for _, p := range unknown {
		if (field.Field{P: p}).Valid() {
			t.Errorf("%d is valid", p)
		}
	}
}

// The table of the document, and what its columns mean.
func TestTable(t *testing.T) {
	for _, c := range []struct {
		p, generator uint64
		adicity      int
		exponent     uint64
	}{
		{17, 3, 4, 3}, {97, 5, 5, 5}, {193, 5, 6, 5}, {257, 3, 8, 3}, {12289, 11, 12, 5}, {65537, 3, 16, 3}, {api.Big, 7, 32, 7},
	} {
		f := field.Field{P: c.p}
		if f.Generator() != c.generator || f.Adicity() != c.adicity || f.Exponent() != c.exponent {
			t.Errorf("%d: %d, %d, %d", c.p, f.Generator(), f.Adicity(), f.Exponent())
		}
		primes := divisors(t, c.p-1)
		generates := func(g uint64) bool {
			return !slices.ContainsFunc(primes, func(d uint64) bool { return f.Pow(g, (c.p-1)/d) == 1 })
		}
		for g := uint64(1); g <= c.generator; g++ {
			if generates(g) != (g == c.generator) {
				t.Errorf("%d: generates %d", c.p, g)
			}
		}
		if odd := (c.p - 1) >> c.adicity; odd<<c.adicity != c.p-1 || odd%2 == 0 {
			t.Errorf("%d: adicity", c.p)
		}
		for e := uint64(3); e <= c.exponent; e += 2 {
			if (gcd(e, c.p-1) == 1) != (e == c.exponent) {
				t.Errorf("%d: exponent %d", c.p, e)
			}
		}
	}
}

func TestDocumentExamples(t *testing.T) {
	f := field.Field{P: 17}
	if f.Add(9, 11) != 3 || f.Sub(3, 5) != 15 || f.Mul(5, 7) != 1 || f.Inv(5) != 7 {
		t.Error("modulo 17")
	}
	if r, ok := f.Root(4); r != 13 || !ok || f.Mul(r, r) != 16 {
		t.Error("root modulo 17")
	}
	g := field.Field{P: api.Big}
	if g.Neg(1) != 18446744069414584320 || g.Mul(1<<32, 1<<32) != 4294967295 || g.Pow(2, 96) != 18446744069414584320 {
		t.Error("modulo Big")
	}
}

// All operations on all pairs of samples, against numbers of any size.
func TestOperations(t *testing.T) {
	for _, p := range field.Known() {
		f := field.Field{P: p}
		l := samples(p, 40)
		if p == 17 {
			for n := range uint64(40) {
				l = append(l, n)
			}
		}
		for _, a := range l {
			checkSingle(t, f, a)
			for _, b := range l {
				checkPair(t, f, a, b)
			}
		}
	}
}

func checkSingle(t *testing.T, f field.Field, a uint64) {
	t.Helper()
	if got := f.Reduce(a); got != a%f.P {
		t.Errorf("modulo %d: Reduce(%d) = %d", f.P, a, got)
	}
	if got := f.Neg(a); got != modulo(new(big.Int).Neg(number(a)), f.P) {
		t.Errorf("modulo %d: Neg(%d) = %d", f.P, a, got)
	}
	if got := f.Inv(a); got != inverse(a, f.P) {
		t.Errorf("modulo %d: Inv(%d) = %d", f.P, a, got)
	}
}

func checkPair(t *testing.T, f field.Field, a, b uint64) {
	t.Helper()
	x, y := number(a), number(b)
	for _, c := range []struct {
		name      string
		got, want uint64
	}{
		{"Add", f.Add(a, b), modulo(new(big.Int).Add(x, y), f.P)},
		{"Sub", f.Sub(a, b), modulo(new(big.Int).Sub(x, y), f.P)},
		{"Mul", f.Mul(a, b), modulo(new(big.Int).Mul(x, y), f.P)},
		{"Div", f.Div(a, b), modulo(new(big.Int).Mul(x, number(inverse(b, f.P))), f.P)},
		{"Pow", f.Pow(a, b), new(big.Int).Exp(x, y, number(f.P)).Uint64()},
	} {
		if c.got != c.want {
			t.Errorf("modulo %d: %s(%d, %d) = %d, not %d", f.P, c.name, a, b, c.got, c.want)
		}
	}
}

// The carries of a product modulo Big appear only if its halves are extreme.
func TestProductsModuloBig(t *testing.T) {
	f := field.Field{P: api.Big}
	var l []uint64
	for _, high := range []uint64{0, 1, 2, 1 << 31, 1<<32 - 2, 1<<32 - 1} {
		for _, low := range []uint64{0, 1, 2, 1 << 31, 1<<32 - 2, 1<<32 - 1} {
			l = append(l, high<<32|low)
		}
	}
	for _, a := range l {
		for _, b := range l {
			if got, want := f.Mul(a, b), modulo(new(big.Int).Mul(number(a), number(b)), f.P); got != want {
				t.Errorf("Mul(%d, %d) = %d, not %d", a, b, got, want)
			}
		}
	}
}

func TestPowEdges(t *testing.T) {
	for _, p := range field.Known() {
		f := field.Field{P: p}
		for _, a := range samples(p, 2) {
			if f.Pow(a, 0) != 1 {
				t.Errorf("modulo %d: Pow(%d, 0)", p, a)
			}
			if f.Pow(a, 1) != a%p {
				t.Errorf("modulo %d: Pow(%d, 1)", p, a)
			}
		}
		if f.Pow(0, 5) != 0 || f.Pow(p, p) != 0 || f.Pow(3, p-1) != 1 || f.Pow(3, p) != 3 {
			t.Errorf("modulo %d: powers", p)
		}
	}
}

func TestRoot(t *testing.T) {
	orders := []int{math.MinInt, math.MinInt + 1, -4, -2, -1, 0, math.MaxInt, math.MaxInt - 1}
	for n := 1; n <= 300; n++ {
		orders = append(orders, n)
	}
	for s := 9; s < 63; s++ {
		orders = append(orders, 1<<s, 1<<s-1, 1<<s+1, 3<<(s-2))
	}
	for _, p := range append(field.Known(), unknown...) {
		f := field.Field{P: p}
		for _, n := range orders {
			power := n > 0 && new(big.Int).And(big.NewInt(int64(n)), big.NewInt(int64(n-1))).Sign() == 0
			want := uint64(0)
			exists := f.Valid() && power && (p-1)%uint64(max(n, 1)) == 0
			if exists {
				want = new(big.Int).Exp(number(f.Generator()), number((p-1)/uint64(n)), number(p)).Uint64()
			}
			if got, ok := f.Root(n); got != want || ok != exists {
				t.Errorf("modulo %d: Root(%d) = %d, %v", p, n, got, ok)
			}
		}
	}
}

func TestRootLimits(t *testing.T) {
	for _, p := range field.Known() {
		f := field.Field{P: p}
		greatest := 1 << f.Adicity()
		if _, ok := f.Root(greatest); !ok {
			t.Errorf("modulo %d: no root of order %d", p, greatest)
		}
		if r, ok := f.Root(2 * greatest); r != 0 || ok {
			t.Errorf("modulo %d: a root of order %d", p, 2*greatest)
		}
		if r, ok := f.Root(1); r != 1 || !ok {
			t.Errorf("modulo %d: root of order 1", p)
		}
	}
}

func TestSumAndDot(t *testing.T) {
	for _, p := range field.Known() {
		f := field.Field{P: p}
		a := samples(p, 30)
		b := slices.Clone(a)
		slices.Reverse(b)
		b = append(b, 1, p+1, math.MaxUint64)
		for _, n := range []int{0, 1, 2, 7, len(a)} {
			sum, dot := new(big.Int), new(big.Int)
			for i := range n {
				sum.Add(sum, number(a[i]))
				dot.Add(dot, new(big.Int).Mul(number(a[i]), number(b[i])))
			}
			if got := f.Sum(a[:n]); got != modulo(sum, p) {
				t.Errorf("modulo %d: Sum of %d = %d", p, n, got)
			}
			// Elements without a partner do not count, in either list.
			for _, got := range []uint64{f.Dot(a[:n], b[:n]), f.Dot(a[:n], b), f.Dot(b, a[:n])} {
				want := modulo(dot, p)
				if n > 0 && got != want || n == 0 && got != 0 {
					t.Errorf("modulo %d: Dot of %d = %d, not %d", p, n, got, want)
				}
			}
		}
		if f.Sum(nil) != 0 || f.Dot(nil, nil) != 0 || f.Dot(nil, b) != 0 || f.Dot(a, nil) != 0 || f.Dot(a, []uint64{}) != 0 {
			t.Errorf("modulo %d: empty lists", p)
		}
	}
}

func TestDotOfDifferentLengths(t *testing.T) {
	f := field.Field{P: 17}
	if f.Dot([]uint64{2, 3, 4}, []uint64{5, 6}) != 11 || f.Dot([]uint64{5, 6}, []uint64{2, 3, 4}) != 11 {
		t.Error("Dot")
	}
}

func TestPowers(t *testing.T) {
	for _, p := range field.Known() {
		f := field.Field{P: p}
		for _, a := range samples(p, 2) {
			l := f.Powers(a, 20)
			if len(l) != 20 {
				t.Fatalf("modulo %d: %d powers", p, len(l))
			}
			for i, n := range l {
				if n != f.Pow(a, uint64(i)) {
					t.Errorf("modulo %d: power %d of %d = %d", p, i, a, n)
				}
			}
		}
		for _, n := range []int{0, 1, 2, 65535, 65536} {
			if l := f.Powers(3, n); len(l) != n || n > 0 && l[n-1] != f.Pow(3, uint64(n-1)) {
				t.Errorf("modulo %d: %d powers of 3", p, n)
			}
		}
		for _, n := range []int{-1, -65536, math.MinInt, 65537, 1 << 20, math.MaxInt} {
			if l := f.Powers(3, n); len(l) != 0 {
				t.Errorf("modulo %d: %d powers, not none (%d)", p, len(l), n)
			}
		}
	}
}

func TestInverses(t *testing.T) {
	for _, p := range field.Known() {
		f := field.Field{P: p}
		zeros := []uint64{0, p, 0}
		for _, l := range [][]uint64{nil, {}, {0}, {p}, {1}, {p + 2}, zeros, samples(p, 30), append(samples(p, 3), zeros...)} {
			before := slices.Clone(l)
			inverses := f.Inverses(l)
			if len(inverses) != len(l) {
				t.Fatalf("modulo %d: %d inverses of %d", p, len(inverses), len(l))
			}
			for i, a := range l {
				if inverses[i] != inverse(a, p) || inverses[i] != f.Inv(a) {
					t.Errorf("modulo %d: inverse %d of %d = %d", p, i, a, inverses[i])
				}
			}
			clear(inverses)
			if !slices.Equal(l, before) {
				t.Errorf("modulo %d: the argument has changed", p)
			}
		}
	}
}

func TestInvalidFields(t *testing.T) {
	l := []uint64{1, 2, 3}
	for _, p := range unknown {
		f := field.Field{P: p}
		for _, a := range samples(p, 2) {
			for i, n := range []uint64{
				f.Reduce(a), f.Neg(a), f.Inv(a), f.Add(a, 2), f.Sub(a, 2), f.Sub(2, a), f.Mul(a, 2), f.Div(a, 2),
				f.Pow(a, 0), f.Pow(a, 3), f.Pow(3, a), f.Sum([]uint64{a, 3}), f.Dot([]uint64{a}, l),
			} {
				if n != 0 {
					t.Errorf("modulo %d: result %d is %d", p, i, n)
				}
			}
			if f.Powers(a, 3) != nil || f.Inverses([]uint64{a, 3}) != nil {
				t.Errorf("modulo %d: a list", p)
			}
		}
		if f.Powers(1, 0) != nil || f.Inverses(nil) != nil || f.Sum(nil) != 0 || f.Dot(nil, nil) != 0 {
			t.Errorf("modulo %d: empty lists", p)
		}
		if f.Valid() || f.Generator() != 0 || f.Adicity() != 0 || f.Exponent() != 0 {
			t.Errorf("modulo %d: constants", p)
		}
		if r, ok := f.Root(1); r != 0 || ok {
			t.Errorf("modulo %d: a root", p)
		}
	}
}

// P1.2: the elements are a field.
func TestFieldAxioms(t *testing.T) {
	for _, p := range field.Known() {
		f := field.Field{P: p}
		l := samples(p, 3)
		if p == 17 {
			l = f.Powers(3, 17)
			l[16] = 0
		}
		for _, a := range l {
			checkNeutral(t, f, a)
			for _, b := range l {
				if f.Add(a, b) != f.Add(b, a) || f.Mul(a, b) != f.Mul(b, a) || f.Add(f.Sub(a, b), b) != a%p {
					t.Errorf("modulo %d: %d and %d", p, a, b)
				}
				if zero := a%p == 0 || b%p == 0; (f.Mul(a, b) == 0) != zero {
					t.Errorf("modulo %d: %d times %d", p, a, b)
				}
				for _, c := range l {
					if f.Add(f.Add(a, b), c) != f.Add(a, f.Add(b, c)) || f.Mul(f.Mul(a, b), c) != f.Mul(a, f.Mul(b, c)) ||
						f.Mul(a, f.Add(b, c)) != f.Add(f.Mul(a, b), f.Mul(a, c)) {
						t.Errorf("modulo %d: %d, %d and %d", p, a, b, c)
					}
				}
			}
		}
	}
}

func checkNeutral(t *testing.T, f field.Field, a uint64) {
	t.Helper()
	if f.Add(a, 0) != a%f.P || f.Mul(a, 1) != a%f.P || f.Add(a, f.Neg(a)) != 0 || f.Mul(a, 0) != 0 {
		t.Errorf("modulo %d: %d and the neutral elements", f.P, a)
	}
	if a%f.P != 0 && f.Mul(a, f.Inv(a)) != 1 {
		t.Errorf("modulo %d: the inverse of %d", f.P, a)
	}
}

// P1.2: a root of order n has the power -1 with the exponent n / 2.
func TestRootsHaveTheirOrders(t *testing.T) {
	for _, p := range field.Known() {
		f := field.Field{P: p}
		for s := 1; s <= f.Adicity(); s++ {
			n := uint64(1) << s
			r, ok := f.Root(int(n))
			if !ok || f.Pow(r, n/2) != p-1 || f.Pow(r, n) != 1 {
				t.Errorf("modulo %d: root of order %d", p, n)
			}
			if half, ok := f.Root(int(n / 2)); !ok || f.Mul(r, r) != half {
				t.Errorf("modulo %d: the square of the root of order %d", p, n)
			}
		}
	}
}

// P1.2: raising to the exponent is a bijection.
func TestExponentIsBijection(t *testing.T) {
	for _, p := range field.Known() {
		f := field.Field{P: p}
		back := new(big.Int).ModInverse(number(f.Exponent()), number(p-1)).Uint64()
		for _, a := range samples(p, 40) {
			if f.Pow(f.Pow(a, f.Exponent()), back) != a%p || f.Pow(f.Pow(a, back), f.Exponent()) != a%p {
				t.Errorf("modulo %d: %d is not restored", p, a)
			}
		}
		if p == api.Big {
			continue
		}
		images := make([]bool, p)
		for a := range p {
			image := f.Pow(a, f.Exponent())
			if images[image] {
				t.Errorf("modulo %d: %d occurs twice", p, image)
			}
			images[image] = true
		}
	}
}

func BenchmarkMul(b *testing.B) {
	for _, p := range []uint64{65537, api.Big} {
		b.Run(number(p).String(), func(b *testing.B) {
			f := field.Field{P: p}
			n := f.Generator()
			for b.Loop() {
				n = f.Mul(n, n)
			}
		})
	}
}
