package linear_test

import (
	"fmt"
	"math"
	"math/bits"
	"slices"
	"testing"

	"moidore/api"
	"moidore/field"
	"moidore/linear"
)

// unknown are numbers that are not known primes.
var unknown = []uint64{0, 1, 2, 3, 15, 16, 18, 19, 34, 96, 256, 65536, 17 * 97, 1<<61 - 1,
	api.Big - 1, api.Big + 1, math.MaxUint64}

// sizes are numbers of rows and columns.
var sizes = []int{0, 1, 2, 3, 4, 7, 17, 64}

// forAllFields runs a test in each of the seven known fields.
func forAllFields(t *testing.T, test func(t *testing.T, f field.Field)) {
	t.Helper()
	if len(field.Known()) != 7 {
		t.Fatalf("%d known primes", len(field.Known()))
	}
	for _, p := range field.Known() {
		t.Run(fmt.Sprint(p), func(t *testing.T) { test(t, field.Field{P: p}) })
	}
}

// source is a sequence of numbers of 64 bits, which follow from its first state.
type source struct{ state uint64 }

func (s *source) next() uint64 {
	s.state = s.state*6364136223846793005 + 1442695040888963407
	return bits.RotateLeft64(s.state^s.state>>29, int(s.state>>58))
}

func (s *source) below(n int) int { return int(s.next() % uint64(n)) }

func (s *source) vector(n int) []uint64 {
	l := make([]uint64, n)
	for i := range l {
		l[i] = s.next()
	}
	return l
}

func (s *source) matrix(rows, columns int) [][]uint64 {
	m := make([][]uint64, rows)
	for i := range m {
		m[i] = s.vector(columns)
	}
	return m
}

// The reference below calculates with products of 128 bits.

func times(p, a, b uint64) uint64 {
	high, low := bits.Mul64(a, b)
	return bits.Rem64(high, low, p)
}

func plus(p, a, b uint64) uint64 {
	low, carry := bits.Add64(a, b, 0)
	return bits.Rem64(carry, low, p)
}

func minus(p, a, b uint64) uint64 { return plus(p, a, p-b%p) }

func dot(p uint64, a, b []uint64) uint64 {
	sum := uint64(0)
	for i := range a {
		sum = plus(p, sum, times(p, a[i], b[i]))
	}
	return sum
}

func image(p uint64, m [][]uint64, v []uint64) []uint64 {
	l := make([]uint64, len(m))
	for i, row := range m {
		l[i] = dot(p, row, v)
	}
	return l
}

// product multiplies two matrices; columns is the number of columns of b,
// which cannot be seen if b has no rows.
func product(p uint64, a, b [][]uint64, columns int) [][]uint64 {
	m := make([][]uint64, len(a))
	for i, row := range a {
		m[i] = make([]uint64, columns)
		for j := range columns {
			for k, n := range row {
				m[i][j] = plus(p, m[i][j], times(p, n, b[k][j]))
			}
		}
	}
	return m
}

// expanded returns a determinant by the expansion along the first row.
func expanded(p uint64, m [][]uint64) uint64 {
	if len(m) == 0 {
		return 1
	}
	sum := uint64(0)
	for j, n := range m[0] {
		var minor [][]uint64
		for _, row := range m[1:] {
			minor = append(minor, slices.Delete(slices.Clone(row), j, j+1))
		}
		term := times(p, n, expanded(p, minor))
		if j%2 == 1 {
			term = minus(p, 0, term)
		}
		sum = plus(p, sum, term)
	}
	return sum
}

func identity(n int) [][]uint64 {
	m := make([][]uint64, n)
	for i := range m {
		m[i] = make([]uint64, n)
		m[i][i] = 1
	}
	return m
}

// invertible returns an invertible matrix and its determinant: the product of
// a lower and an upper triangular matrix, whose rows are then exchanged.
func (s *source) invertible(p uint64, n int) ([][]uint64, uint64) {
	lower, upper := identity(n), identity(n)
	determinant := uint64(1)
	for i := range n {
		upper[i][i] = 1 + s.next()%(p-1)
		determinant = times(p, determinant, upper[i][i])
		for j := range i {
			lower[i][j], upper[j][i] = s.next()%p, s.next()%p
		}
	}
	m := product(p, lower, upper, n)
	for i := range n {
		if j := i + s.below(n-i); j != i {
			m[i], m[j] = m[j], m[i]
			determinant = minus(p, 0, determinant)
		}
	}
	return m, determinant
}

// sample is a matrix with what is known about it: it is the product of an
// invertible matrix and the form, which is a reduced row echelon form.
type sample struct {
	rows, columns int
	matrix        [][]uint64
	invertible    [][]uint64
	form          [][]uint64
	pivots        []int
}

// sample makes a matrix of some rank. A third of the elements are not reduced.
func (s *source) sample(p uint64, rows, columns, rank int) sample {
	pivots := make([]int, columns)
	for i := range pivots {
		pivots[i] = i
	}
	for len(pivots) > rank {
		i := s.below(len(pivots))
		pivots = slices.Delete(pivots, i, i+1)
	}
	form := make([][]uint64, rows)
	for i := range form {
		form[i] = make([]uint64, columns)
		if i >= rank {
			continue
		}
		form[i][pivots[i]] = 1
		for j := pivots[i] + 1; j < columns; j++ {
			if !slices.Contains(pivots, j) {
				form[i][j] = s.next() % p
			}
		}
	}
	invertible, _ := s.invertible(p, rows)
	m := product(p, invertible, form, columns)
	for i := range m {
		s.lift(p, m[i])
	}
	return sample{rows, columns, m, invertible, form, pivots}
}

// lift adds P to a third of the elements, where 64 bits are enough.
func (s *source) lift(p uint64, l []uint64) {
	for i := range l {
		if s.below(3) == 0 && l[i] <= math.MaxUint64-p {
			l[i] += p
		}
	}
}

// free returns the columns without pivot.
func (s sample) free() []int {
	var l []int
	for j := range s.columns {
		if !slices.Contains(s.pivots, j) {
			l = append(l, j)
		}
	}
	return l
}

// forAllSamples runs a test with matrices of all sizes, and of ranks that
// include the least and the greatest.
func forAllSamples(t *testing.T, test func(t *testing.T, f field.Field, s *source, m sample)) {
	t.Helper()
	forAllFields(t, func(t *testing.T, f field.Field) {
		s := &source{f.P}
		for _, rows := range sizes {
			for _, columns := range sizes {
				full := min(rows, columns)
				ranks := []int{0, full / 2, full - 1, full}
				if full == 0 {
					ranks = []int{0}
				}
				for _, rank := range slices.Compact(ranks) {
					test(t, f, s, s.sample(f.P, rows, columns, rank))
				}
			}
		}
	})
}

func same(a, b [][]uint64) bool { return slices.EqualFunc(a, b, slices.Equal[[]uint64]) }

func cloned(m [][]uint64) [][]uint64 {
	l := make([][]uint64, len(m))
	for i, row := range m {
		l[i] = slices.Clone(row)
	}
	return l
}

func short(m [][]uint64) string {
	if len(m) <= 4 && (len(m) == 0 || len(m[0]) <= 4) {
		return fmt.Sprint(m)
	}
	return fmt.Sprintf("a matrix with %d rows", len(m))
}

func TestValid(t *testing.T) {
	for _, rows := range []int{0, 1, 2, 63, 64, 65, 100, 4096} {
		for _, columns := range []int{0, 1, 2, 63, 64, 65, 100, 4096} {
			want := rows == 0 || rows <= 64 && columns <= 64
			if got := linear.Valid((&source{1}).matrix(rows, columns)); got != want {
				t.Errorf("%d rows of %d columns: Valid = %v", rows, columns, got)
			}
		}
	}
	for i, m := range ragged() {
		if linear.Valid(m) {
			t.Errorf("ragged matrix %d is valid", i)
		}
	}
	for i, m := range [][][]uint64{nil, {}, {{}}, {nil}, {nil, {}}, {{}, nil, {}}, {{math.MaxUint64}}} {
		if !linear.Valid(m) {
			t.Errorf("matrix %d is not valid", i)
		}
	}
}

// ragged returns matrices whose rows have different lengths.
func ragged() [][][]uint64 {
	l := [][][]uint64{{{1}, {}}, {{}, {1}}, {nil, {1}}, {{1}, nil}, {{1}, {1, 2}}, {{1, 2}, {1}}, {{1, 2}, {3, 4}, {5}},
		{{1, 2}, {3}, {5, 6}}, {{1}, {2, 3}, {4, 5}}, {{1, 2}, {3, 4, 5}}}
	for i := range 64 {
		m := identity(64)
		m[i] = m[i][:63]
		l = append(l, m)
	}
	return l
}

// invalid returns matrices that are not valid.
func invalid() [][][]uint64 {
	s := &source{7}
	return append(ragged(), s.matrix(65, 65), s.matrix(65, 1), s.matrix(1, 65), s.matrix(65, 64), s.matrix(64, 65),
		s.matrix(65, 0), s.matrix(300, 0), identity(65), identity(128))
}

// checkNothing tests that all functions refuse a matrix, or a field.
func checkNothing(t *testing.T, f field.Field, m [][]uint64) {
	t.Helper()
	columns := 0
	if len(m) > 0 {
		columns = len(m[0])
	}
	if l := linear.Apply(f, m, make([]uint64, columns)); l != nil {
		t.Errorf("P = %d: Apply(%s) = %v", f.P, short(m), l)
	}
	if l := linear.Multiply(f, m, identity(columns)); l != nil {
		t.Errorf("P = %d: Multiply(%s, ..) = %v", f.P, short(m), l)
	}
	if l := linear.Multiply(f, identity(len(m)), m); l != nil {
		t.Errorf("P = %d: Multiply(.., %s) = %v", f.P, short(m), l)
	}
	if l, pivots := linear.Reduce(f, m); l != nil || pivots != nil {
		t.Errorf("P = %d: Reduce(%s) = %v, %v", f.P, short(m), l, pivots)
	}
	if n := linear.Rank(f, m); n != 0 {
		t.Errorf("P = %d: Rank(%s) = %d", f.P, short(m), n)
	}
	if l, ok := linear.Solve(f, m, make([]uint64, len(m))); ok || l != nil {
		t.Errorf("P = %d: Solve(%s) = %v, %v", f.P, short(m), l, ok)
	}
	if l := linear.Kernel(f, m); l != nil {
		t.Errorf("P = %d: Kernel(%s) = %v", f.P, short(m), l)
	}
	if l, ok := linear.Inverse(f, m); ok || l != nil {
		t.Errorf("P = %d: Inverse(%s) = %v, %v", f.P, short(m), l, ok)
	}
	if n := linear.Determinant(f, m); n != 0 {
		t.Errorf("P = %d: Determinant(%s) = %d", f.P, short(m), n)
	}
}

func TestInvalidMatrices(t *testing.T) {
	forAllFields(t, func(t *testing.T, f field.Field) {
		for _, m := range invalid() {
			checkNothing(t, f, m)
		}
		// The other factor is not valid either if the first one has no rows.
		if l := linear.Multiply(f, nil, [][]uint64{{1}, {}}); l != nil {
			t.Errorf("Multiply = %v", l)
		}
	})
}

func TestUnknownPrimes(t *testing.T) {
	for _, p := range unknown {
		for _, m := range [][][]uint64{nil, {{}}, {{1}}, {{1, 0}, {0, 1}}, {{0, 0}}, {{2, 4}, {1, 3}}, identity(64)} {
			checkNothing(t, field.Field{P: p}, m)
		}
	}
}

func TestNotSquare(t *testing.T) {
	forAllFields(t, func(t *testing.T, f field.Field) {
		s := &source{f.P}
		for _, size := range [][2]int{{1, 0}, {2, 0}, {64, 0}, {1, 2}, {2, 1}, {3, 4}, {4, 3}, {63, 64}, {64, 63}, {1, 64}, {64, 1}} {
			m := s.matrix(size[0], size[1])
			if l, ok := linear.Inverse(f, m); ok || l != nil {
				t.Errorf("Inverse of %v = %v, %v", size, l, ok)
			}
			if n := linear.Determinant(f, m); n != 0 {
				t.Errorf("Determinant of %v = %d", size, n)
			}
		}
	})
}

func TestLengthsThatDoNotFit(t *testing.T) {
	forAllFields(t, func(t *testing.T, f field.Field) {
		s := &source{f.P}
		for _, rows := range sizes {
			for _, columns := range sizes {
				m := s.matrix(rows, columns)
				if rows == 0 {
					columns = 0
				}
				for _, n := range []int{0, 1, 2, 3, 5, 62, 63, 64, 65, 128} {
					if l := linear.Apply(f, m, s.vector(n)); n != columns && l != nil {
						t.Errorf("%d columns: Apply to %d elements = %v", columns, n, l)
					}
					if l, ok := linear.Solve(f, m, make([]uint64, n)); n != rows && (ok || l != nil) {
						t.Errorf("%d rows: Solve for %d elements = %v, %v", rows, n, l, ok)
					}
					if l := linear.Multiply(f, m, s.matrix(n, 2)); n != columns && l != nil {
						t.Errorf("%d columns: Multiply by %d rows = %v", columns, n, l)
					}
				}
			}
		}
	})
}

func TestEmpty(t *testing.T) {
	forAllFields(t, func(t *testing.T, f field.Field) {
		for _, none := range [][][]uint64{nil, {}} {
			if l, ok := linear.Inverse(f, none); !ok || len(l) != 0 {
				t.Errorf("Inverse = %v, %v", l, ok)
			}
			if l, ok := linear.Solve(f, none, nil); !ok || len(l) != 0 {
				t.Errorf("Solve = %v, %v", l, ok)
			}
			if l, pivots := linear.Reduce(f, none); len(l) != 0 || len(pivots) != 0 {
				t.Errorf("Reduce = %v, %v", l, pivots)
			}
			if linear.Determinant(f, none) != 1 || linear.Rank(f, none) != 0 || len(linear.Kernel(f, none)) != 0 {
				t.Error("the matrix without rows")
			}
			if l := linear.Multiply(f, none, none); len(l) != 0 {
				t.Errorf("Multiply = %v", l)
			}
			for _, n := range []int{1, 2, 64} {
				if l := linear.Multiply(f, make([][]uint64, n), none); len(l) != n || len(slices.Concat(l...)) != 0 {
					t.Errorf("%d rows without elements: Multiply = %v", n, l)
				}
			}
		}
		for _, n := range []int{1, 2, 64} {
			rows := make([][]uint64, n)
			if l := linear.Apply(f, rows, nil); !slices.Equal(l, make([]uint64, n)) {
				t.Errorf("%d rows without elements: Apply = %v", n, l)
			}
			if l, pivots := linear.Reduce(f, rows); len(l) != n || len(slices.Concat(l...)) != 0 || len(pivots) != 0 {
				t.Errorf("%d rows without elements: Reduce = %v, %v", n, l, pivots)
			}
			if l, ok := linear.Solve(f, rows, slices.Repeat([]uint64{f.P}, n)); !ok || len(l) != 0 {
				t.Errorf("%d rows without elements: Solve = %v, %v", n, l, ok)
			}
			b := make([]uint64, n)
			b[n-1] = 1
			if l, ok := linear.Solve(f, rows, b); ok || l != nil {
				t.Errorf("%d rows without elements, not 0: Solve = %v, %v", n, l, ok)
			}
			if linear.Rank(f, rows) != 0 || len(linear.Kernel(f, rows)) != 0 {
				t.Errorf("%d rows without elements", n)
			}
			if l := linear.Multiply(f, identity(n), rows); len(l) != n || len(slices.Concat(l...)) != 0 {
				t.Errorf("Multiply by %d rows without elements = %v", n, l)
			}
		}
	})
}

func TestProducts(t *testing.T) {
	forAllFields(t, func(t *testing.T, f field.Field) {
		s := &source{f.P}
		for _, rows := range sizes {
			for _, inner := range sizes {
				if rows == 0 && inner > 0 {
					continue // a matrix without rows has no columns
				}
				a, v := s.matrix(rows, inner), s.vector(inner)
				if got := linear.Apply(f, a, v); !slices.Equal(got, image(f.P, a, v)) {
					t.Fatalf("%d rows, %d columns: Apply = %v", rows, inner, got)
				}
				for _, columns := range []int{0, 1, 3, 64} {
					if inner == 0 {
						columns = 0
					}
					b := s.matrix(inner, columns)
					if got := linear.Multiply(f, a, b); !same(got, product(f.P, a, b, columns)) {
						t.Fatalf("%d by %d by %d: Multiply = %s", rows, inner, columns, short(got))
					}
				}
			}
		}
	})
}

func TestReduce(t *testing.T) {
	forAllSamples(t, func(t *testing.T, f field.Field, s *source, m sample) {
		form, pivots := linear.Reduce(f, m.matrix)
		if !same(form, m.form) || !slices.Equal(pivots, m.pivots) {
			t.Fatalf("%d rows, %d columns: Reduce(%s) = %s, %v, not %s, %v", m.rows, m.columns, short(m.matrix),
				short(form), pivots, short(m.form), m.pivots)
		}
		if rank := linear.Rank(f, m.matrix); rank != len(m.pivots) {
			t.Fatalf("Rank = %d, not %d", rank, len(m.pivots))
		}
		again, _ := linear.Reduce(f, form)
		if !same(again, form) {
			t.Fatalf("the reduced form changes")
		}
	})
}

func TestSolve(t *testing.T) {
	forAllSamples(t, func(t *testing.T, f field.Field, s *source, m sample) {
		any := s.vector(m.columns)
		b := image(f.P, m.matrix, any)
		s.lift(f.P, b)
		// Where the pivots are, the form has an identity.
		want := make([]uint64, m.columns)
		if m.rows == 0 {
			want = nil
		}
		for i, column := range m.pivots {
			want[column] = dot(f.P, m.form[i], any)
		}
		if x, ok := linear.Solve(f, m.matrix, b); !ok || !slices.Equal(x, want) {
			t.Fatalf("%d rows, %d columns, rank %d: Solve = %v, %v, not %v", m.rows, m.columns, len(m.pivots), x, ok, want)
		}
		// The form of a system without solution has a row of zeros that should yield something else.
		for i := len(m.pivots); i < m.rows; i += 7 {
			c := image(f.P, m.form, any)
			c[i] = 1 + s.next()%(f.P-1)
			if x, ok := linear.Solve(f, m.matrix, image(f.P, m.invertible, c)); ok || x != nil {
				t.Fatalf("%d rows, %d columns, rank %d, no solution: Solve = %v, %v", m.rows, m.columns, len(m.pivots), x, ok)
			}
		}
	})
}

func TestKernel(t *testing.T) {
	forAllSamples(t, func(t *testing.T, f field.Field, s *source, m sample) {
		var want [][]uint64
		if m.rows > 0 {
			for _, free := range m.free() {
				x := make([]uint64, m.columns)
				x[free] = 1
				for i, column := range m.pivots {
					x[column] = minus(f.P, 0, m.form[i][free])
				}
				want = append(want, x)
			}
		}
		got := linear.Kernel(f, m.matrix)
		if !same(got, want) {
			t.Fatalf("%d rows, %d columns, rank %d: Kernel = %s, not %s", m.rows, m.columns, len(m.pivots), short(got), short(want))
		}
		for _, x := range got {
			if !slices.Equal(image(f.P, m.matrix, x), make([]uint64, m.rows)) {
				t.Fatal("a vector of the kernel is no solution")
			}
		}
	})
}

func TestInverse(t *testing.T) {
	forAllFields(t, func(t *testing.T, f field.Field) {
		s := &source{f.P}
		for _, n := range sizes {
			m, determinant := s.invertible(f.P, n)
			for i := range m {
				s.lift(f.P, m[i])
			}
			inverse, ok := linear.Inverse(f, m)
			if !ok || len(inverse) != n {
				t.Fatalf("size %d: Inverse = %s, %v", n, short(inverse), ok)
			}
			if !same(product(f.P, m, inverse, n), identity(n)) || !same(product(f.P, inverse, m, n), identity(n)) {
				t.Fatalf("size %d: Inverse(%s) = %s", n, short(m), short(inverse))
			}
			if got := linear.Determinant(f, m); got != determinant {
				t.Fatalf("size %d: Determinant(%s) = %d, not %d", n, short(m), got, determinant)
			}
			for _, row := range inverse {
				if slices.ContainsFunc(row, func(n uint64) bool { return n >= f.P }) {
					t.Fatalf("size %d: the inverse is not reduced", n)
				}
			}
		}
	})
}

func TestSingular(t *testing.T) {
	forAllFields(t, func(t *testing.T, f field.Field) {
		s := &source{f.P}
		for _, n := range sizes {
			for rank := 0; rank < n; rank += 1 + n/8 {
				m := s.sample(f.P, n, n, rank)
				inverse, ok := linear.Inverse(f, m.matrix)
				if ok || inverse != nil {
					t.Fatalf("size %d, rank %d: Inverse = %s, %v", n, rank, short(inverse), ok)
				}
				if got := linear.Determinant(f, m.matrix); got != 0 {
					t.Fatalf("size %d, rank %d: Determinant = %d", n, rank, got)
				}
			}
		}
	})
}

// Elements are reduced first: all results are those for the numbers without a multiple of P.
func TestNotReduced(t *testing.T) {
	forAllFields(t, func(t *testing.T, f field.Field) {
		s := &source{f.P}
		for _, n := range []int{1, 2, 3, 5, 8} {
			for range 20 {
				m, v := s.matrix(n, n), s.vector(n)
				reduce(m, v, 3)
				greater, w := cloned(m), slices.Clone(v)
				for i := range greater {
					s.lift(f.P, greater[i])
				}
				s.lift(f.P, w)
				lists, pivots := results(f, m, v)
				others, otherPivots := results(f, greater, w)
				if !same(lists, others) || !slices.Equal(pivots, otherPivots) || linear.Rank(f, greater) != len(pivots) ||
					linear.Determinant(f, greater) != linear.Determinant(f, m) {
					t.Fatalf("%v and %v, with %v and %v, have different results", m, greater, v, w)
				}
				if slices.ContainsFunc(slices.Concat(others...), func(n uint64) bool { return n >= f.P }) {
					t.Fatalf("%v and %v: results are not reduced", greater, w)
				}
			}
		}
	})
}

// reduce replaces all elements by their remainders.
func reduce(m [][]uint64, v []uint64, p uint64) {
	for _, l := range append(slices.Clone(m), v) {
		for i := range l {
			l[i] %= p
		}
	}
}

// All matrices with two rows over the field of 17 elements.
func TestAllOfSizeTwo(t *testing.T) {
	f := field.Field{P: 17}
	for i := range uint64(17 * 17 * 17 * 17) {
		m := [][]uint64{{i % 17, i / 17 % 17}, {i / 17 / 17 % 17, i / 17 / 17 / 17}}
		want := (m[0][0]*m[1][1] + 17*17 - m[0][1]*m[1][0]) % 17
		if got := linear.Determinant(f, m); got != want {
			t.Fatalf("Determinant(%v) = %d, not %d", m, got, want)
		}
		inverse, ok := linear.Inverse(f, m)
		if ok != (want != 0) || ok && !same(product(17, m, inverse, 2), identity(2)) || !ok && inverse != nil {
			t.Fatalf("Inverse(%v) = %v, %v", m, inverse, ok)
		}
	}
}

// Determinants are compared with their expansion, for elements among which there are many zeros.
func TestDeterminantExpanded(t *testing.T) {
	forAllFields(t, func(t *testing.T, f field.Field) {
		s := &source{f.P}
		for n := range 6 {
			for range 60 {
				m := s.matrix(n, n)
				for i := range m {
					for j := range m[i] {
						m[i][j] = []uint64{0, f.P, 1, f.P - 1, 2, m[i][j]}[s.below(6)]
					}
				}
				if got, want := linear.Determinant(f, m), expanded(f.P, m); got != want {
					t.Fatalf("Determinant(%v) = %d, not %d", m, got, want)
				}
			}
		}
	})
}

// P5.2: the determinant of a product, and matrices with inverses.
func TestDeterminantOfProduct(t *testing.T) {
	forAllFields(t, func(t *testing.T, f field.Field) {
		s := &source{f.P}
		for _, n := range sizes {
			for range 5 {
				a, b := s.sample(f.P, n, n, max(n-s.below(2), 0)).matrix, s.matrix(n, n)
				of := linear.Determinant(f, linear.Multiply(f, a, b))
				if of != times(f.P, linear.Determinant(f, a), linear.Determinant(f, b)) {
					t.Fatalf("size %d: the determinant of the product is %d", n, of)
				}
				for _, m := range [][][]uint64{a, b} {
					if _, ok := linear.Inverse(f, m); ok != (linear.Determinant(f, m) != 0) {
						t.Fatalf("size %d: Inverse(%s) = %v", n, short(m), ok)
					}
				}
			}
		}
	})
}

// P5.2: for small systems, all vectors over the field of 17 elements are tried.
func TestAllSolutions(t *testing.T) {
	f := field.Field{P: 17}
	s := &source{5}
	for i := range 24 {
		rows := 1 + i%4
		m := s.sample(17, rows, 3, i/4%(min(rows, 3)+1))
		b := image(17, m.matrix, s.vector(3))
		if i%5 == 0 {
			b = s.vector(rows)
		}
		first, ok := linear.Solve(f, m.matrix, b)
		kernel := linear.Kernel(f, m.matrix)
		if len(kernel) != 3-linear.Rank(f, m.matrix) {
			t.Fatalf("Kernel(%v) = %v", m.matrix, kernel)
		}
		count := 0
		for n := range uint64(17 * 17 * 17) {
			x := []uint64{n % 17, n / 17 % 17, n / 17 / 17}
			if !slices.Equal(image(17, m.matrix, x), image(17, identity(rows), b)) {
				continue
			}
			count++
			if !ok {
				t.Fatalf("Solve(%v, %v) does not find %v", m.matrix, b, x)
			}
			sum := slices.Clone(first)
			for i, free := range m.free() {
				for j := range sum {
					sum[j] = plus(17, sum[j], times(17, x[free], kernel[i][j]))
				}
			}
			if !slices.Equal(sum, x) {
				t.Fatalf("Solve(%v, %v) = %v, Kernel = %v, not %v", m.matrix, b, first, kernel, x)
			}
		}
		if want := int(math.Pow(17, float64(len(kernel)))); ok && count != want || !ok && count != 0 {
			t.Fatalf("Solve(%v, %v) = %v, %v, but there are %d solutions", m.matrix, b, first, ok, count)
		}
	}
}

func TestExamples(t *testing.T) {
	f := field.Field{P: 17}
	m := [][]uint64{{2, 4}, {1, 3}}
	if n := linear.Determinant(f, m); n != 2 {
		t.Errorf("Determinant = %d", n)
	}
	if l, ok := linear.Inverse(f, m); !ok || !same(l, [][]uint64{{10, 15}, {8, 1}}) {
		t.Errorf("Inverse = %v, %v", l, ok)
	}
	if l, pivots := linear.Reduce(f, m); !same(l, identity(2)) || !slices.Equal(pivots, []int{0, 1}) {
		t.Errorf("Reduce = %v, %v", l, pivots)
	}
	m = [][]uint64{{1, 2, 3}, {2, 4, 7}}
	if _, pivots := linear.Reduce(f, m); !slices.Equal(pivots, []int{0, 2}) {
		t.Errorf("pivots %v", pivots)
	}
	if l := linear.Kernel(f, m); !same(l, [][]uint64{{15, 1, 0}}) {
		t.Errorf("Kernel = %v", l)
	}
}

// results calls all functions and returns the lists of their results, first
// those of matrices, then others.
func results(f field.Field, m [][]uint64, v []uint64) ([][]uint64, []int) {
	form, pivots := linear.Reduce(f, m)
	inverse, _ := linear.Inverse(f, m)
	solution, _ := linear.Solve(f, m, v)
	linear.Determinant(f, m)
	linear.Rank(f, m)
	linear.Valid(m)
	lists := slices.Concat(form, inverse, linear.Kernel(f, m), linear.Multiply(f, m, m))
	return append(lists, solution, linear.Apply(f, m, v)), pivots
}

// No argument is changed, and all lists of the results are memory of their own.
func TestMemory(t *testing.T) {
	forAllFields(t, func(t *testing.T, f field.Field) {
		s := &source{f.P}
		for _, n := range []int{1, 2, 3, 8, 64} {
			regular, _ := s.invertible(f.P, n)
			for _, m := range [][][]uint64{identity(n), regular, s.sample(f.P, n, n, n/2).matrix} {
				v := image(f.P, m, s.vector(n))
				s.lift(f.P, v)
				beforeM, beforeV := cloned(m), slices.Clone(v)
				lists, pivots := results(f, m, v)
				if !same(m, beforeM) || !slices.Equal(v, beforeV) {
					t.Fatalf("size %d: an argument has changed", n)
				}
				kept, keptPivots := cloned(lists), slices.Clone(pivots)
				for i := range lists {
					spoil(lists[i])
					if !same(lists[i+1:], kept[i+1:]) || !same(m, beforeM) || !slices.Equal(v, beforeV) {
						t.Fatalf("size %d: a result shares memory", n)
					}
				}
				again, pivotsAgain := results(f, m, v)
				if !same(again, kept) || !slices.Equal(pivotsAgain, keptPivots) {
					t.Fatalf("size %d: another call returns something else", n)
				}
			}
		}
	})
}

// spoil changes all elements of a list, also those beyond its length.
func spoil(l []uint64) {
	l = l[:cap(l)]
	for i := range l {
		l[i]++
	}
}

func BenchmarkInverse(b *testing.B) {
	m, _ := (&source{1}).invertible(api.Big, 64)
	for b.Loop() {
		linear.Inverse(field.Field{P: api.Big}, m)
	}
}

func BenchmarkMultiply(b *testing.B) {
	m := (&source{1}).matrix(64, 64)
	for b.Loop() {
		linear.Multiply(field.Field{P: api.Big}, m, m)
	}
}
