package code_test

import (
	"fmt"
	"math"
	"math/bits"
	"slices"
	"testing"

	"moidore/api"
	"moidore/code"
	"moidore/field"
)

// generators are the known primes and their generators, as chapter 1 lists them.
var generators = map[uint64]uint64{17: 3, 97: 5, 193: 5, 257: 3, 12289: 11, 65537: 3, api.Big: 7}

// unknown are numbers that are not known primes.
var unknown = []uint64{0, 1, 2, 3, 5, 16, 18, 19, 41, 256, 12290, 65536, 17 * 97, 1<<61 - 1,
	api.Big - 1, api.Big + 1, math.MaxUint64}

// lengths returns the numbers of positions of the valid codes over a known prime.
func lengths(p uint64) []int {
	var l []int
	for n := 1; n <= 256 && uint64(n) < p-1 && (p-1)%uint64(n) == 0; n *= 2 {
		l = append(l, n)
	}
	return l
}

// forAllLengths runs a test for each known prime and each number of positions.
func forAllLengths(t *testing.T, test func(t *testing.T, p uint64, n int)) {
	t.Helper()
	for p := range generators {
		for _, n := range lengths(p) {
			t.Run(fmt.Sprint(p, "/", n), func(t *testing.T) { test(t, p, n) })
		}
	}
}

// forSomeCodes runs a test for codes over each known prime with each number of
// positions, and with few, some and many coefficients.
func forSomeCodes(t *testing.T, test func(t *testing.T, c code.Code)) {
	t.Helper()
	forAllLengths(t, func(t *testing.T, p uint64, n int) {
		counts := []int{1, 2, 3, n / 4, n/2 - 1, n / 2, n - 2, n - 1, n}
		slices.Sort(counts)
		for _, k := range slices.Compact(counts) {
			if k >= 1 && k <= n {
				test(t, code.Code{P: p, N: n, K: k})
			}
		}
	})
}

// source is a sequence of numbers of 64 bits, which follow from its first state.
type source struct{ state uint64 }

func (s *source) next() uint64 {
	s.state = s.state*6364136223846793005 + 1442695040888963407
	return bits.RotateLeft64(s.state^s.state>>29, int(s.state>>58))
}

func (s *source) below(n int) int { return int(s.next() % uint64(n)) }

// vector returns n numbers that are not reduced.
func (s *source) vector(n int) []uint64 {
	l := make([]uint64, n)
	for i := range l {
		l[i] = s.next()
	}
	return l
}

// places returns some of the positions below n, all different.
func (s *source) places(n, count int) []int {
	l := make([]int, n)
	for i := range l {
		l[i] = i
	}
	for i := range count {
		j := i + s.below(n-i)
		l[i], l[j] = l[j], l[i]
	}
	return l[:count]
}

// lifted returns numbers that are equal to those of a list modulo p, some of
// which are not reduced.
func (s *source) lifted(p uint64, l []uint64) []uint64 {
	lift := slices.Clone(l)
	for i := range lift {
		if lift[i] <= math.MaxUint64-p && s.below(2) == 0 {
			lift[i] += p
		}
	}
	return lift
}

// damaged returns a word that differs from another one at some places.
func (s *source) damaged(p uint64, word []uint64, places []int) []uint64 {
	l := slices.Clone(word)
	for _, i := range places {
		l[i] = plus(p, l[i], 1+s.next()%(p-1))
	}
	return l
}

// The reference below calculates with products of 128 bits.

func times(p, a, b uint64) uint64 {
	high, low := bits.Mul64(a, b)
	return bits.Rem64(high, low, p)
}

func plus(p, a, b uint64) uint64 {
	low, carry := bits.Add64(a, b, 0)
	return bits.Rem64(carry, low, p)
}

func minus(p, a, b uint64) uint64 { return plus(p, a, p-b%p) }

func power(p, a, e uint64) uint64 {
	result := uint64(1)
	for ; e > 0; e /= 2 {
		if e%2 == 1 {
			result = times(p, result, a)
		}
		a = times(p, a, a)
	}
	return result
}

// points returns the generator times the powers of the root.
func points(p uint64, n int) []uint64 {
	g := generators[p]
	l := make([]uint64, n)
	for i := range l {
		l[i] = times(p, g, power(p, g, (p-1)/uint64(n)*uint64(i)))
	}
	return l
}

// word returns the values of a polynomial at the points.
func word(p uint64, n int, a []uint64) []uint64 {
	values := points(p, n)
	for i, x := range values {
		values[i] = 0
		for _, coefficient := range slices.Backward(a) {
			values[i] = plus(p, times(p, values[i], x), coefficient)
		}
	}
	return values
}

// sum returns a + r b, element by element.
func sum(p uint64, a, b []uint64, r uint64) []uint64 {
	l := make([]uint64, len(a))
	for i := range l {
		l[i] = plus(p, a[i], times(p, r, b[i]))
	}
	return l
}

// differing counts the positions of two lists of one length that differ modulo p.
func differing(p uint64, a, b []uint64) int {
	count := 0
	for i := range a {
		if a[i]%p != b[i]%p {
			count++
		}
	}
	return count
}

// allWords returns all words of a code.
func allWords(c code.Code) [][]uint64 {
	words := [][]uint64{make([]uint64, c.N)}
	for i := range c.K {
		monomial := make([]uint64, i+1)
		monomial[i] = 1
		step := word(c.P, c.N, monomial)
		for _, w := range words {
			for r := uint64(1); r < c.P; r++ {
				words = append(words, sum(c.P, w, step, r))
			}
		}
	}
	return words
}

// within returns the words of a list that are within e of a word.
func within(p uint64, words [][]uint64, l []uint64, e int) [][]uint64 {
	var near [][]uint64
	for _, w := range words {
		if differing(p, w, l) <= e {
			near = append(near, w)
		}
	}
	return near
}

// P6.1: every combination of primes, numbers of positions and of coefficients.
func TestValid(t *testing.T) {
	positions := []int{math.MinInt, math.MinInt32, -1 << 16, -256, 511, 512, 1024, 2048, 4096, 1 << 16, 1 << 32, 1 << 62, math.MaxInt}
	for n := -20; n <= 300; n++ {
		positions = append(positions, n)
	}
	for _, p := range append(field.Known(), unknown...) {
		for _, n := range positions {
			for _, k := range []int{math.MinInt, -n, -1, 0, 1, 2, n / 2, n - 1, n, n + 1, 256, 257, math.MaxInt} {
				c := code.Code{P: p, N: n, K: k}
				want := generators[p] > 0 && slices.Contains(lengths(p), n) && k >= 1 && k <= n
				if code.Valid(c) != want {
					t.Errorf("Valid(%v) = %v", c, !want)
				}
				if !want && len(code.Points(c)) > 0 {
					t.Errorf("Points(%v) has points", c)
				}
			}
		}
	}
}

// P6.1: the points, which are different, and none of which is an N-th root of unity.
func TestPoints(t *testing.T) {
	forAllLengths(t, func(t *testing.T, p uint64, n int) {
		want := points(p, n)
		for k := 1; k <= n; k++ {
			if got := code.Points(code.Code{P: p, N: n, K: k}); !slices.Equal(got, want) {
				t.Fatalf("Points with K = %d: %v", k, got)
			}
		}
		for i, x := range want {
			if slices.Contains(want[:i], x) || power(p, x, uint64(n)) == 1 {
				t.Errorf("the point %d is %d", i, x)
			}
		}
	})
}

// P6.1: the words of polynomials, with missing coefficients and numbers that are not reduced.
func TestEncode(t *testing.T) {
	forSomeCodes(t, func(t *testing.T, c code.Code) {
		s := &source{uint64(c.K)}
		for _, a := range [][]uint64{nil, {}, {1}, {c.P}, {c.P + 5}, {0, 1}, slices.Repeat([]uint64{c.P - 1}, c.K),
			slices.Repeat([]uint64{math.MaxUint64}, c.K), make([]uint64, c.K), s.vector(c.K), s.vector(c.K - 1), s.vector((c.K + 1) / 2)} {
			if len(a) > c.K {
				continue
			}
			if got, e := code.Encode(c, a); !slices.Equal(got, word(c.P, c.N, a)) || e != api.OK {
				t.Errorf("%v: Encode(%v) = %v, %v", c, a, got, e)
			}
		}
		for _, a := range [][]uint64{make([]uint64, c.K+1), s.vector(c.K + 1), make([]uint64, 9000)} {
			if got, e := code.Encode(c, a); len(got) > 0 || e != api.ErrInvalid {
				t.Errorf("%v: Encode of %d coefficients = %v, %v", c, len(a), got, e)
			}
		}
	})
}

// P6.1: words of the code, words that are not, and lists of other lengths.
func TestContains(t *testing.T) {
	forSomeCodes(t, func(t *testing.T, c code.Code) {
		s := &source{uint64(c.K)}
		w := word(c.P, c.N, s.vector(c.K))
		for _, l := range [][]uint64{w, s.lifted(c.P, w), make([]uint64, c.N), slices.Repeat([]uint64{math.MaxUint64}, c.N)} {
			if !code.Contains(c, l) {
				t.Errorf("%v does not contain %v", c, l)
			}
		}
		for i := range c.N {
			if got := code.Contains(c, s.damaged(c.P, w, []int{i})); got != (c.K == c.N) {
				t.Errorf("%v: Contains with another element %d = %v", c, i, got)
			}
		}
		for _, l := range [][]uint64{nil, w[:c.N-1], append(slices.Clone(w), 0), slices.Concat(w, w)} {
			if code.Contains(c, l) {
				t.Errorf("%v contains a list of length %d", c, len(l))
			}
		}
		if c.K < c.N {
			if next := word(c.P, c.N, append(s.vector(c.K), 1)); code.Contains(c, next) {
				t.Errorf("%v contains a word of a polynomial of degree %d", c, c.K)
			}
		}
	})
	for _, c := range notValid() {
		if code.Contains(c, make([]uint64, max(min(c.N, 300), 0))) {
			t.Errorf("%v, which is not valid, contains a word", c)
		}
	}
}

// notValid returns codes that are not valid.
func notValid() []code.Code {
	l := []code.Code{{P: 17, N: 16, K: 1}, {P: 17, N: 32, K: 1}, {P: 97, N: 64, K: 2}, {P: 97, N: 96, K: 2}, {P: 193, N: 128, K: 3},
		{P: 257, N: 256, K: 3}, {P: 12289, N: 512, K: 1}, {P: 65537, N: 512, K: 1}, {P: api.Big, N: 512, K: 1}, {P: api.Big, N: 1 << 32, K: 1},
		{P: 17, N: 0, K: 0}, {P: 17, N: 0, K: 1}, {P: 17, N: -4, K: 1}, {P: 17, N: 3, K: 1}, {P: 97, N: 12, K: 1}, {P: api.Big, N: 255, K: 1},
		{P: 17, N: 4, K: 0}, {P: 17, N: 4, K: -1}, {P: 17, N: 4, K: 5}, {P: api.Big, N: 256, K: 257}, {P: 17, N: math.MinInt, K: math.MinInt}}
	for _, p := range unknown {
		l = append(l, code.Code{P: p, N: 1, K: 1}, code.Code{P: p, N: 2, K: 1}, code.Code{P: p}, code.Code{P: p, N: -1, K: 3})
	}
	return l
}

// P6.1: the errors of codes; that of the prime is returned first.
func TestCodesThatAreNotValid(t *testing.T) {
	for _, c := range notValid() {
		want := api.ErrInvalid
		if generators[c.P] == 0 {
			want = api.ErrField
		}
		for _, e := range []int{0, -1, 1, math.MaxInt} {
			for _, n := range []int{0, 1, max(0, min(c.N, 300)), max(0, min(c.K+1, 300))} {
				l := make([]uint64, n)
				if got, errno := code.Encode(c, l); len(got) > 0 || errno != want {
					t.Errorf("%v: Encode = %v, %v", c, got, errno)
				}
				checkNearest(t, c, l, e, nil, want)
				checkPair(t, c, l, l, e, 0, 0, want)
			}
		}
	}
}

// checkNearest tests one call, which finds a word if it is not nil.
func checkNearest(t *testing.T, c code.Code, l []uint64, e int, want []uint64, errno api.Errno) {
	t.Helper()
	if got, ok, x := code.Nearest(c, l, e); !slices.Equal(got, want) || ok != (want != nil) || x != errno {
		t.Errorf("%v: Nearest(%v, %d) = %v, %v, %v, not %v, %v", c, l, e, got, ok, x, want, errno)
	}
}

// checkPair tests one call each of Close and Apart.
func checkPair(t *testing.T, c code.Code, a, b []uint64, e, count, apart int, errno api.Errno) {
	t.Helper()
	if got, x := code.Close(c, a, b, e); got != count || x != errno {
		t.Errorf("%v: Close(%v, %v, %d) = %d, %v, not %d, %v", c, a, b, e, got, x, count, errno)
	}
	if got, x := code.Apart(c, a, b, e); got != apart || x != errno {
		t.Errorf("%v: Apart(%v, %v, %d) = %d, %v, not %d, %v", c, a, b, e, got, x, apart, errno)
	}
}

// P6.1: the numbers of lists are not reduced, and their lengths may differ.
func TestDistance(t *testing.T) {
	for _, x := range []struct {
		a, b []uint64
		want int
	}{
		{nil, nil, 0},
		{nil, []uint64{}, 0},
		{nil, []uint64{0, 0}, 2},
		{[]uint64{0}, nil, 1},
		{[]uint64{1, 2, 3}, []uint64{1, 2, 3}, 0},
		{[]uint64{1, 2, 3}, []uint64{3, 2, 1}, 2},
		{[]uint64{1, 2, 3}, []uint64{1, 5}, 2},
		{[]uint64{1, 2}, []uint64{2, 1, 3, 4, 5}, 5},
		{[]uint64{0, 17, api.Big, math.MaxUint64}, []uint64{0, 0, 0, math.MaxUint64}, 2},
	} {
		if code.Distance(x.a, x.b) != x.want || code.Distance(x.b, x.a) != x.want {
			t.Errorf("Distance(%v, %v) = %d", x.a, x.b, code.Distance(x.a, x.b))
		}
	}
	s := &source{1}
	for n := range 300 {
		a := s.vector(n)
		b := append(slices.Clone(a), 0)
		changed := s.places(n, s.below(n+1))
		for _, i := range changed {
			b[i]++
		}
		if got := code.Distance(a, b); got != len(changed)+1 {
			t.Errorf("Distance = %d, not %d", got, len(changed)+1)
		}
	}
}

// P6.1: all lists of four elements modulo 17, by marking all that are within e
// of each word of the code.
func TestNearestOfAllWords(t *testing.T) {
	number := func(l []uint64) uint64 { return l[0] + 17*(l[1]+17*(l[2]+17*l[3])) }
	for k := 1; k <= 4; k++ {
		c := code.Code{P: 17, N: 4, K: k}
		words := allWords(c)
		for e := 0; 2*e <= 4-k; e++ {
			near := map[uint64][]uint64{}
			for _, w := range words {
				near[number(w)] = w
				for i := 0; e == 1 && i < 4; i++ {
					for r := uint64(1); r < 17; r++ {
						changed := slices.Clone(w)
						changed[i] = (w[i] + r) % 17
						near[number(changed)] = w
					}
				}
			}
			for n := range uint64(17 * 17 * 17 * 17) {
				l := []uint64{n % 17, n / 17 % 17, n / (17 * 17) % 17, n / (17 * 17 * 17)}
				checkNearest(t, c, l, e, near[n], api.OK)
				if code.Contains(c, l) != (near[n] != nil) && e == 0 {
					t.Errorf("%v: Contains(%v)", c, l)
				}
			}
		}
	}
}

// P6.1: lists about and between words of a code of eight positions, whose words are all tried.
func TestNearestAmongAllWords(t *testing.T) {
	s := &source{8}
	for k := 1; k <= 3; k++ {
		c := code.Code{P: 17, N: 8, K: k}
		words := allWords(c)
		for range 400 {
			l := s.damaged(17, words[s.below(len(words))], s.places(8, s.below(6)))
			if other := words[s.below(len(words))]; s.below(3) == 0 {
				for _, i := range s.places(8, 3+s.below(3)) {
					l[i] = other[i]
				}
			}
			for e := 0; 2*e <= 8-k; e++ {
				var want []uint64
				if near := within(17, words, l, e); len(near) > 0 {
					want = near[0]
				}
				checkNearest(t, c, s.lifted(17, l), e, want, api.OK)
			}
		}
	}
}

// P6.1: up to e changed positions are found, for every e, also where numbers
// are not reduced; e + 1 of them are too many.
func TestNearest(t *testing.T) {
	forSomeCodes(t, func(t *testing.T, c code.Code) {
		s := &source{uint64(c.K)}
		most := (c.N - c.K) / 2
		for _, e := range []int{0, 1, 2, most / 2, most - 1, most} {
			if e < 0 || e > most {
				continue
			}
			for _, a := range [][]uint64{{5}, s.vector(c.K)} {
				w := word(c.P, c.N, a)
				for _, count := range []int{0, 1, e / 2, e - 1, e} {
					if count < 0 || count > e {
						continue
					}
					l := s.damaged(c.P, w, s.places(c.N, count))
					checkNearest(t, c, l, e, w, api.OK)
					checkNearest(t, c, s.lifted(c.P, l), e, w, api.OK)
					first := make([]int, count)
					for i := range first {
						first[i] = i
					}
					checkNearest(t, c, s.damaged(c.P, w, first), e, w, api.OK)
				}
				// Another word within e would differ from w at 2e + 1 positions at most.
				if 2*e+1 <= c.N-c.K {
					checkNearest(t, c, s.damaged(c.P, w, s.places(c.N, e+1)), e, nil, api.OK)
				}
			}
		}
	})
}

// P6.1: a list that agrees with one word at some positions and with another at
// all others: it is closest to the one with more of them, if to any.
func TestNearestOfTwo(t *testing.T) {
	forSomeCodes(t, func(t *testing.T, c code.Code) {
		s := &source{uint64(c.K)}
		e := (c.N - c.K) / 2
		a, b := word(c.P, c.N, s.vector(c.K)), word(c.P, c.N, s.vector(c.K))
		for from := 0; from <= c.N; from += 1 + c.N/32 {
			l := append(slices.Clone(a[:from]), b[from:]...)
			switch {
			case differing(c.P, l, a) <= e:
				checkNearest(t, c, l, e, a, api.OK)
			case differing(c.P, l, b) <= e:
				checkNearest(t, c, l, e, b, api.OK)
			default:
				got, ok, errno := code.Nearest(c, l, e)
				if errno != api.OK || ok && (!code.Contains(c, got) || differing(c.P, l, got) > e) || !ok && len(got) > 0 {
					t.Errorf("%v: Nearest(%v) = %v, %v, %v", c, l, got, ok, errno)
				}
			}
		}
	})
}

// P6.1: lengths and distances that are refused, also where twice the distance overflows.
func TestNearestErrors(t *testing.T) {
	forSomeCodes(t, func(t *testing.T, c code.Code) {
		w := word(c.P, c.N, []uint64{1})
		for _, e := range []int{-1, -2, math.MinInt, math.MinInt + 1, (c.N-c.K)/2 + 1, c.N, math.MaxInt, math.MaxInt/2 + 1} {
			checkNearest(t, c, w, e, nil, api.ErrInvalid)
		}
		for _, l := range [][]uint64{nil, w[:c.N-1], append(slices.Clone(w), 1), slices.Concat(w, w)} {
			checkNearest(t, c, l, 0, nil, api.ErrInvalid)
		}
	})
}

// P6.1: sums of rows, and rows and coefficients that do not fit.
func TestFold(t *testing.T) {
	for _, p := range field.Known() {
		s := &source{p}
		for _, count := range []int{1, 2, 3, 20} {
			for _, n := range []int{0, 1, 5, 1000} {
				rows, coefs, want := make([][]uint64, count), s.vector(count), make([]uint64, n)
				for i := range rows {
					rows[i] = s.vector(n)
					want = sum(p, want, rows[i], coefs[i])
				}
				checkFold(t, p, rows, coefs, want)
				checkFold(t, p, rows, coefs[1:], nil)
				checkFold(t, p, rows[1:], coefs, nil)
				checkFold(t, p, rows, append(coefs, 0), nil)
				checkFold(t, p, append(slices.Clone(rows), s.vector(n+1)), append(coefs, 0), nil)
				checkFold(t, p, append([][]uint64{s.vector(n + 1)}, rows...), append(coefs, 0), nil)
				for _, q := range unknown {
					checkFold(t, q, rows, coefs, nil)
				}
			}
		}
		checkFold(t, p, nil, nil, nil)
		checkFold(t, p, [][]uint64{{p - 1, p, math.MaxUint64}}, []uint64{p + 1}, []uint64{p - 1, 0, math.MaxUint64 % p})
		checkFold(t, p, [][]uint64{{1}, {2}, nil}, []uint64{1, 1, 1}, nil)
		checkFold(t, p, [][]uint64{nil, {}, nil}, []uint64{1, 1, 1}, nil)
	}
}

func checkFold(t *testing.T, p uint64, rows [][]uint64, coefs, want []uint64) {
	t.Helper()
	if got := code.Fold(p, rows, coefs); !slices.Equal(got, want) {
		t.Errorf("Fold(%d, %v, %v) = %v, not %v", p, rows, coefs, got, want)
	}
}

// together returns what Close and Apart return, by trying all words of a code
// and, if that is asked for, all pairs of them.
func together(t *testing.T, c code.Code, words [][]uint64, a, b []uint64, e int, pairs bool) (int, int) {
	t.Helper()
	var counted []uint64
	var near [][]uint64
	for r := range c.P {
		if l := within(c.P, words, sum(c.P, a, b, r), e); len(l) > 0 {
			counted, near = append(counted, r), append(near, l[0])
		}
	}
	if len(counted) < 2 {
		return len(counted), -1
	}
	for i := range words {
		first, seconds := words[i], words
		if !pairs { // B follows from A and one word of a fold
			inverse := power(c.P, counted[1], c.P-2)
			seconds = [][]uint64{sum(c.P, make([]uint64, c.N), sum(c.P, near[1], first, c.P-1), inverse)}
		}
		for _, second := range seconds {
			if slices.ContainsFunc(counted, func(r uint64) bool {
				return differing(c.P, sum(c.P, a, b, r), sum(c.P, first, second, r)) > e
			}) {
				continue
			}
			apart := 0
			for j := range a {
				if a[j]%c.P != first[j] || b[j]%c.P != second[j] {
					apart++
				}
			}
			return len(counted), apart
		}
	}
	t.Fatalf("%v: there is no line for %v and %v", c, a, b)
	return 0, 0
}

// P6.1: Close and Apart, and P6.2: the bounds of Apart, among all words of small codes.
func TestTogetherAmongAllWords(t *testing.T) {
	s := &source{3}
	seen := map[int]bool{}
	for _, c := range []code.Code{{P: 17, N: 4, K: 1}, {P: 17, N: 8, K: 1}, {P: 17, N: 8, K: 2}, {P: 17, N: 2, K: 1}, {P: 17, N: 2, K: 2}, {P: 97, N: 8, K: 1}} {
		words := allWords(c)
		for range 150 {
			// At the damaged places, a + r b is not damaged for one of a few r.
			a, b := words[s.below(len(words))], words[s.below(len(words))]
			a, b = slices.Clone(a), slices.Clone(b)
			for _, i := range s.places(c.N, s.below(min(c.N, 6)+1)) {
				n := s.next() % c.P
				a[i], b[i] = plus(c.P, a[i], times(c.P, n, s.next()%4)), plus(c.P, b[i], n)
			}
			for e := 0; 3*e <= c.N-c.K; e++ {
				count, apart := together(t, c, words, a, b, e, c.K == 1 && c.P == 17)
				checkPair(t, c, s.lifted(c.P, a), s.lifted(c.P, b), e, count, apart, api.OK)
				checkBounds(t, c, e, count, apart)
				seen[count] = true
			}
		}
	}
	for _, count := range []int{0, 1, 2, 3, 17, 97} {
		if !seen[count] {
			t.Errorf("no case in which %d elements are counted", count)
		}
	}
}

// checkBounds tests the consequences of the result of Close for that of Apart.
func checkBounds(t *testing.T, c code.Code, e, count, apart int) {
	t.Helper()
	if count > e+1 && (apart < 0 || apart > e) || (apart == -1) != (count < 2) || count > 1 && apart*(count-1) > count*e {
		t.Errorf("%v, e = %d: Close = %d, Apart = %d", c, e, count, apart)
	}
}

// P6.1 and P6.2: two words that are damaged at the same positions or at more
// of them, where the damage vanishes for some r. As long as few positions are
// damaged, no other word of the code is near.
func TestTogether(t *testing.T) {
	forSomeCodes(t, func(t *testing.T, c code.Code) {
		if c.P > 257 {
			return
		}
		s := &source{uint64(c.K)}
		most := (c.N - c.K) / 3
		for _, e := range slices.Compact([]int{0, most / 2, most}) {
			for _, count := range []int{e, e + 1, c.N - c.K - e} {
				if count > c.N-c.K-e {
					continue
				}
				a, b := word(c.P, c.N, s.vector(c.K)), word(c.P, c.N, s.vector(c.K))
				checkDamaged(t, s, c, a, b, s.places(c.N, count), e)
			}
		}
	})
}

// checkDamaged damages two words at some places and tests what Close and Apart return.
func checkDamaged(t *testing.T, s *source, c code.Code, a, b []uint64, places []int, e int) {
	t.Helper()
	a, b = slices.Clone(a), slices.Clone(b)
	vanishes := map[uint64]int{} // at how many of the places the fold with r is not damaged
	for _, i := range places {
		r, n := s.next()%3*uint64(s.below(2)), 1+s.next()%(c.P-1)
		a[i] = minus(c.P, a[i], times(c.P, r, n))
		b[i] = plus(c.P, b[i], n)
		vanishes[r]++
	}
	count, apart := 0, -1
	for r := range c.P {
		if len(places)-vanishes[r] <= e {
			count++
		}
	}
	if count > 1 {
		apart = len(places)
	}
	checkPair(t, c, s.lifted(c.P, a), s.lifted(c.P, b), e, count, apart, api.OK)
	checkBounds(t, c, e, count, apart)
}

// P6.2: e + 1 elements can be counted for two words that are not close together.
func TestMostElementsApart(t *testing.T) {
	for _, c := range []code.Code{{P: 17, N: 8, K: 2}, {P: 97, N: 32, K: 5}, {P: 193, N: 64, K: 1}, {P: 257, N: 128, K: 2}} {
		s := &source{uint64(c.K)}
		for e := 0; e <= (c.N-c.K)/3; e += 1 + e/3 {
			a, b := word(c.P, c.N, s.vector(c.K)), word(c.P, c.N, s.vector(c.K))
			if e == 0 { // one element is counted, and so there is no line
				checkPair(t, c, s.damaged(c.P, a, []int{3}), s.damaged(c.P, b, []int{3}), 0, 1, -1, api.OK)
				continue
			}
			for r, i := range s.places(c.N, e+1) {
				a[i], b[i] = minus(c.P, a[i], uint64(r)), plus(c.P, b[i], 1)
			}
			checkPair(t, c, a, b, e, e+1, e+1, api.OK)
		}
	}
}

// P6.1: lists far from each other and from the code.
func TestFarFromTheCode(t *testing.T) {
	for _, c := range []code.Code{{P: 97, N: 32, K: 3}, {P: 193, N: 64, K: 32}, {P: 257, N: 128, K: 8}} {
		s := &source{c.P}
		a, b, zeros := s.vector(c.N), s.vector(c.N), make([]uint64, c.N)
		e := (c.N - c.K) / 3
		checkPair(t, c, a, b, e, 0, -1, api.OK) // there are far more such lists than those near the code
		checkPair(t, c, a, zeros, e, 0, -1, api.OK)
		checkPair(t, c, zeros, b, e, 1, -1, api.OK)
		checkPair(t, c, zeros, zeros, e, int(c.P), 0, api.OK)
		checkPair(t, c, slices.Repeat([]uint64{c.P}, c.N), zeros, 0, int(c.P), 0, api.OK)
	}
}

// P6.1: great primes, lengths and distances that are refused, also where three
// times the distance overflows.
func TestTogetherErrors(t *testing.T) {
	forSomeCodes(t, func(t *testing.T, c code.Code) {
		w := word(c.P, c.N, []uint64{1})
		if c.P > 257 {
			checkPair(t, c, w, w, 0, 0, 0, api.ErrInvalid)
			return
		}
		const third = math.MaxInt/3 + 1
		for _, e := range []int{-1, math.MinInt, math.MinInt / 3 * 2, (c.N-c.K)/3 + 1, c.N, math.MaxInt, third, 2 * third} {
			checkPair(t, c, w, w, e, 0, 0, api.ErrInvalid)
		}
		for _, l := range [][]uint64{nil, w[:c.N-1], append(slices.Clone(w), 1), slices.Concat(w, w)} {
			checkPair(t, c, l, w, 0, 0, 0, api.ErrInvalid)
			checkPair(t, c, w, l, 0, 0, 0, api.ErrInvalid)
			checkPair(t, c, l, l, 0, 0, 0, api.ErrInvalid)
		}
	})
}

// P6.2: words of a code that differ do so at N - K + 1 or more positions;
// some of them at no more.
func TestDistanceOfWords(t *testing.T) {
	for _, c := range []code.Code{{P: 17, N: 1, K: 1}, {P: 17, N: 2, K: 1}, {P: 17, N: 2, K: 2}, {P: 17, N: 4, K: 2}, {P: 17, N: 4, K: 3}, {P: 17, N: 8, K: 3}, {P: 97, N: 32, K: 2}} {
		zeros, least := make([]uint64, c.N), c.N
		for _, w := range allWords(c)[1:] {
			least = min(least, code.Distance(w, zeros))
		}
		if least != c.N-c.K+1 {
			t.Errorf("%v: words at the distance %d", c, least)
		}
	}
	forSomeCodes(t, func(t *testing.T, c code.Code) {
		s := &source{uint64(c.K)}
		a := s.vector(c.K)
		x, e := code.Encode(c, a)
		for i := range a {
			a[i] = plus(c.P, a[i], 1)
			y, e2 := code.Encode(c, a)
			if e != api.OK || e2 != api.OK || code.Distance(x, y) < c.N-c.K+1 {
				t.Errorf("%v: the words %v and %v", c, x, y)
			}
		}
	})
}

// P6.2: sums of multiples of words are words.
func TestSumsOfWords(t *testing.T) {
	forSomeCodes(t, func(t *testing.T, c code.Code) {
		s := &source{uint64(c.K)}
		var rows, messages [][]uint64
		for range 4 {
			messages = append(messages, s.vector(c.K))
			w, _ := code.Encode(c, messages[len(messages)-1])
			rows = append(rows, s.lifted(c.P, w))
		}
		coefs := s.vector(4)
		got := code.Fold(c.P, rows, coefs)
		want, e := code.Encode(c, code.Fold(c.P, messages, coefs))
		if !code.Contains(c, got) || !slices.Equal(got, want) || e != api.OK {
			t.Errorf("%v: the sum of words is %v, not %v", c, got, want)
		}
	})
}

func TestExamples(t *testing.T) {
	c := code.Code{P: 17, N: 4, K: 2}
	if got := code.Points(c); !slices.Equal(got, []uint64{3, 5, 14, 12}) {
		t.Errorf("Points = %v", got)
	}
	want := []uint64{4, 6, 15, 13}
	if got, e := code.Encode(c, []uint64{1, 1}); !slices.Equal(got, want) || e != api.OK {
		t.Errorf("Encode = %v, %v", got, e)
	}
	checkNearest(t, c, []uint64{4, 6, 0, 13}, 1, want, api.OK)
}

// results calls all functions and returns the lists of their results.
func results(c code.Code, a, l, m []uint64, rows [][]uint64, coefs []uint64) [][]uint64 {
	code.Valid(c)
	code.Contains(c, l)
	code.Distance(l, m)
	code.Close(c, l, m, 1)
	code.Apart(c, l, m, 1)
	encoded, _ := code.Encode(c, a)
	nearest, _, _ := code.Nearest(c, l, 1)
	exact, _, _ := code.Nearest(c, encoded, 0)
	return [][]uint64{code.Points(c), encoded, nearest, exact, code.Fold(c.P, rows, coefs), code.Fold(c.P, rows[:1], []uint64{1})}
}

// No argument is changed, all lists of the results are memory of their own, and
// calls depend on nothing but their arguments.
func TestMemory(t *testing.T) {
	for _, c := range []code.Code{{P: 17, N: 8, K: 3}, {P: 257, N: 32, K: 1}, {P: 12289, N: 4, K: 2}, {P: api.Big, N: 256, K: 200}, {P: 97, N: 4, K: 1}} {
		s := &source{uint64(c.N)}
		a := s.vector(c.K)
		l := s.lifted(c.P, s.damaged(c.P, word(c.P, c.N, a), []int{c.N - 1}))
		arguments := [][]uint64{a, l, s.lifted(c.P, word(c.P, c.N, a)), s.vector(c.N), s.vector(c.N), s.vector(3)}
		before := cloned(arguments)
		call := func() [][]uint64 {
			return results(c, arguments[0], arguments[1], arguments[2], arguments[2:5], arguments[5])
		}
		lists := call()
		kept := cloned(lists)
		for i := range lists {
			if len(lists[i]) != c.N {
				t.Errorf("%v: the result %d is %v", c, i, lists[i])
			}
			spoil(lists[i])
			if !same(lists[i+1:], kept[i+1:]) || !same(arguments, before) {
				t.Fatalf("%v: the result %d shares memory, or an argument has changed", c, i)
			}
		}
		if !same(call(), kept) {
			t.Errorf("%v: another call returns something else", c)
		}
	}
}

func cloned(m [][]uint64) [][]uint64 {
	l := make([][]uint64, len(m))
	for i := range m {
		l[i] = slices.Clone(m[i])
	}
	return l
}

func same(a, b [][]uint64) bool { return slices.EqualFunc(a, b, slices.Equal[[]uint64]) }

// spoil changes all elements of a list, also those beyond its length.
func spoil(l []uint64) {
	l = l[:cap(l)]
	for i := range l {
		l[i]++
	}
}

func BenchmarkNearest(b *testing.B) {
	c := code.Code{P: api.Big, N: 256, K: 64}
	s := &source{1}
	l := s.damaged(c.P, word(c.P, c.N, s.vector(c.K)), s.places(c.N, 96))
	for b.Loop() {
		code.Nearest(c, l, 96)
	}
}

func BenchmarkClose(b *testing.B) {
	c := code.Code{P: 257, N: 128, K: 8}
	s := &source{1}
	x, y := s.vector(c.N), s.vector(c.N)
	for b.Loop() {
		code.Close(c, x, y, 40)
	}
}
