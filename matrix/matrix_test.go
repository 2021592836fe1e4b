package matrix_test

import (
	"bytes"
	"math"
	"slices"
	"testing"

	"aumbry/api"
	"aumbry/gf"
	"aumbry/matrix"
)

// product multiplies two numbers bit by bit, without package gf.
func product(a, b byte) byte {
	var r byte
	for range 8 {
		if b&1 == 1 {
			r ^= a
		}
		high := a&0x80 != 0
		a <<= 1
		if high {
			a ^= 0x1D
		}
		b >>= 1
	}
	return r
}

// products holds all of them, as those of the greatest matrices are many.
var products = func() (all [256][256]byte) {
	for a := range 256 {
		for b := range 256 {
			all[a][b] = product(byte(a), byte(b))
		}
	}
	return all
}()

func of(rows, cols int, numbers ...byte) api.Matrix {
	return api.Matrix{Rows: rows, Cols: cols, A: numbers}
}

// made is a matrix whose numbers are told by their row and column.
func made(rows, cols int, number func(r, c int) byte) api.Matrix {
	a := of(rows, cols)
	for r := range rows {
		for c := range cols {
			a.A = append(a.A, number(r, c))
		}
	}
	return a
}

// at is the number of the row r and the column c.
func at(a api.Matrix, r, c int) byte {
	return a.A[r*a.Cols+c]
}

// productOf is told place by place, as the chapter's words say.
func productOf(a, b api.Matrix) api.Matrix {
	return made(a.Rows, b.Cols, func(r, c int) byte {
		var sum byte
		for i := range a.Cols {
			sum ^= products[at(a, r, i)][at(b, i, c)]
		}
		return sum
	})
}

func identityOf(n int) api.Matrix {
	return made(n, n, func(r, c int) byte {
		if r == c {
			return 1
		}
		return 0
	})
}

// determinant goes along the first row: in this field it has no signs.
func determinant(a api.Matrix) byte {
	if a.Rows == 0 {
		return 1
	}
	var sum byte
	for i := range a.Cols {
		minor := made(a.Rows-1, a.Cols-1, func(r, c int) byte {
			if c >= i {
				c++
			}
			return at(a, r+1, c)
		})
		sum ^= products[at(a, 0, i)][determinant(minor)]
	}
	return sum
}

// mixer tells numbers that look like any, and the same ones each time.
func mixer(seed uint32) func(r, c int) byte {
	return func(r, c int) byte {
		seed = seed*1664525 + 1013904223
		return byte(seed >> 24)
	}
}

// sides are those of mixed, none and the greatest among them.
var sides = []int{0, 1, 2, 3, 5, 17, 256}

// mixed are matrices of all pairs of sides.
func mixed() []api.Matrix {
	var all []api.Matrix
	for i, rows := range sides {
		for j, cols := range sides {
			all = append(all, made(rows, cols, mixer(uint32(100*i+j))))
		}
	}
	return all
}

// bad are matrices that may not be.
func bad() []api.Matrix {
	return []api.Matrix{
		of(1, 1),
		of(1, 1, 1, 2),
		of(0, 0, 1),
		of(0, 3, 1),
		of(3, 0, 1),
		of(2, 1, 1),
		of(2, 2, 1, 2, 3),
		of(2, 2, 1, 2, 3, 4, 5),
		of(2, -2),
		of(-1, 0),
		of(0, -1),
		of(-1, -1, 1),
		of(-16, -16, make([]byte, 256)...),
		of(257, 0),
		of(0, 257),
		of(257, 1, make([]byte, 257)...),
		of(1, 257, make([]byte, 257)...),
		of(257, 257, make([]byte, 257*257)...),
		of(256, 256, make([]byte, 256*256-1)...),
		of(256, 256, make([]byte, 256*256+1)...),
		of(1<<32, 1<<32),
		of(math.MaxInt, math.MaxInt, 1),
		of(math.MinInt, math.MinInt),
		of(math.MinInt, 2),
		of(2, math.MinInt),
		of(math.MaxInt, 0),
		of(0, math.MinInt),
	}
}

func equal(a, b api.Matrix) bool {
	return a.Rows == b.Rows && a.Cols == b.Cols && bytes.Equal(a.A, b.A)
}

// told is a matrix, for a message: the sides alone, if it is great.
func told(a api.Matrix) any {
	if len(a.A) > 40 {
		return [2]int{a.Rows, a.Cols}
	}
	return a
}

// same wants an answer without an error.
func same(t *testing.T, got api.Matrix, err api.Errno, want api.Matrix, call string, arguments ...any) {
	t.Helper()
	if err != api.OK || !equal(got, want) {
		t.Fatalf("%s%v = %v, %d, want %v", call, arguments, told(got), err, told(want))
	}
}

// refused wants an error, and zero values beside it.
func refused(t *testing.T, got api.Matrix, err, want api.Errno, call string, arguments ...any) {
	t.Helper()
	if err != want || got.Rows != 0 || got.Cols != 0 || len(got.A) != 0 {
		t.Fatalf("%s%v = %v, %d, want error %d", call, arguments, told(got), err, want)
	}
}

// The chapter's examples.
func TestExamples(t *testing.T) {
	f := gf.New()
	a := of(2, 2, 1, 2, 3, 4)
	got, err := matrix.Mul(f, a, of(2, 2, 1, 0, 0, 1))
	same(t, got, err, a, "Mul")
	got, err = matrix.Invert(f, of(1, 1, 2))
	same(t, got, err, of(1, 1, 142), "Invert")
	got, err = matrix.Invert(f, of(2, 2, 1, 1, 1, 1))
	refused(t, got, err, api.ErrMatrixSingular, "Invert")
	got, err = matrix.Pick(a, []int{1, 1})
	same(t, got, err, of(2, 2, 3, 4, 3, 4), "Pick")
}

// The section Errors, and the limit.
func TestNumbers(t *testing.T) {
	if _, err := matrix.Mul(nil, of(0, 0), of(0, 0)); err != 1 {
		t.Errorf("without a field: %d", err)
	}
	if err := matrix.Check(of(1, 1)); err != 30 {
		t.Errorf("a matrix that may not be: %d", err)
	}
	if _, err := matrix.Invert(gf.New(), of(1, 1, 0)); err != 31 {
		t.Errorf("a matrix without an inverse: %d", err)
	}
	if api.MaxSide != 256 {
		t.Errorf("MaxSide is %d", api.MaxSide)
	}
}

// P3.1: each side that is at a limit with each, and lists of that length, of one less and of one more.
func TestCheckSides(t *testing.T) {
	may := []int{0, 1, 2, 255, 256}
	mayNot := []int{-1, -2, -256, 257, 258, 1 << 16, 1 << 32, math.MaxInt, math.MinInt}
	for _, rows := range append(slices.Clone(may), mayNot...) {
		for _, cols := range append(slices.Clone(may), mayNot...) {
			// Lengths that wrap round, or are those of two sides below nought, must not be taken for right ones.
			n := rows * cols
			for _, length := range []int{n - 1, n, n + 1} {
				if length < 0 || length > 1<<18 {
					continue
				}
				want := api.ErrMatrixForm
				if slices.Contains(may, rows) && slices.Contains(may, cols) && length == n {
					want = api.OK
				}
				if err := matrix.Check(of(rows, cols, make([]byte, length)...)); err != want {
					t.Errorf("Check of %d rows, %d columns and %d numbers = %d, want %d", rows, cols, length, err, want)
				}
			}
		}
	}
}

// P3.1
func TestCheck(t *testing.T) {
	for _, a := range mixed() {
		if err := matrix.Check(a); err != api.OK {
			t.Errorf("Check(%v) = %d", told(a), err)
		}
	}
	for _, a := range bad() {
		if err := matrix.Check(a); err != api.ErrMatrixForm {
			t.Errorf("Check(%v) = %d", told(a), err)
		}
	}
	if err := matrix.Check(api.Matrix{A: []byte{}}); err != api.OK {
		t.Errorf("Check with an empty list = %d", err)
	}
}

// P3.1
func TestIdentity(t *testing.T) {
	for n := range api.MaxSide + 1 {
		got, err := matrix.Identity(n)
		same(t, got, err, identityOf(n), "Identity", n)
	}
	for _, n := range []int{-1, -256, 257, 1 << 16, 1 << 32, math.MaxInt, math.MinInt} {
		got, err := matrix.Identity(n)
		refused(t, got, err, api.ErrMatrixForm, "Identity", n)
	}
}

// P3.2: all pairs whose sides fit, and all whose sides do not.
func TestMul(t *testing.T) {
	f := gf.New()
	for _, a := range mixed() {
		for _, b := range mixed() {
			got, err := matrix.Mul(f, a, b)
			if a.Cols != b.Rows {
				refused(t, got, err, api.ErrMatrixForm, "Mul", told(a), told(b))
				continue
			}
			same(t, got, err, productOf(a, b), "Mul", told(a), told(b))
		}
	}
}

// P3.2: each pair of numbers.
func TestMulOfNumbers(t *testing.T) {
	f := gf.New()
	for a := range 256 {
		for b := range 256 {
			got, err := matrix.Mul(f, of(1, 1, byte(a)), of(1, 1, byte(b)))
			same(t, got, err, of(1, 1, products[a][b]), "Mul", a, b)
		}
	}
}

// P3.2: products hang on the order, and sides that fit the other way round do not fit.
func TestMulHasAnOrder(t *testing.T) {
	f := gf.New()
	a, b := of(2, 2, 0, 1, 0, 0), of(2, 2, 0, 0, 1, 0)
	got, err := matrix.Mul(f, a, b)
	same(t, got, err, of(2, 2, 1, 0, 0, 0), "Mul", a, b)
	got, err = matrix.Mul(f, b, a)
	same(t, got, err, of(2, 2, 0, 0, 0, 1), "Mul", b, a)
	got, err = matrix.Mul(f, of(2, 3, 1, 2, 3, 4, 5, 6), of(1, 2, 1, 2))
	refused(t, got, err, api.ErrMatrixForm, "Mul")
}

// P3.2: sums of no products are noughts, and none of these are there without rows or columns.
func TestMulOfNothing(t *testing.T) {
	f := gf.New()
	got, err := matrix.Mul(f, of(2, 0), of(0, 3))
	same(t, got, err, of(2, 3, 0, 0, 0, 0, 0, 0), "Mul")
	got, err = matrix.Mul(f, of(256, 0), of(0, 256))
	same(t, got, err, of(256, 256, make([]byte, 256*256)...), "Mul")
	got, err = matrix.Mul(f, of(0, 2), of(2, 3, 1, 2, 3, 4, 5, 6))
	same(t, got, err, of(0, 3), "Mul")
	got, err = matrix.Mul(f, of(3, 2, 1, 2, 3, 4, 5, 6), of(2, 0))
	same(t, got, err, of(3, 0), "Mul")
}

// P3.2: one that may not be on either side, with sides that would fit.
func TestMulOfBad(t *testing.T) {
	f := gf.New()
	for _, a := range bad() {
		for _, b := range append(bad(), of(0, 0), of(1, 1, 1), of(2, 2, 1, 0, 0, 1), identityOf(256)) {
			got, err := matrix.Mul(f, a, b)
			refused(t, got, err, api.ErrMatrixForm, "Mul", told(a), told(b))
			got, err = matrix.Mul(f, b, a)
			refused(t, got, err, api.ErrMatrixForm, "Mul", told(b), told(a))
		}
	}
}

// picks are rows of a matrix that has so many: none, each, all the other way round, and some twice.
func picks(n int) [][]int {
	all := [][]int{nil, {}}
	var each, back, twice []int
	for r := range n {
		each = append(each, r)
		back = append(back, n-1-r)
		twice = append(twice, r/2, r/2)
	}
	all = append(all, each, back, twice[:n])
	if n > 0 {
		all = append(all, []int{n - 1}, []int{0, n - 1, 0}, make([]int, api.MaxSide))
	}
	return all
}

// P3.2
func TestPick(t *testing.T) {
	for _, a := range mixed() {
		for _, rows := range picks(a.Rows) {
			want := made(len(rows), a.Cols, func(r, c int) byte { return at(a, rows[r], c) })
			got, err := matrix.Pick(a, rows)
			same(t, got, err, want, "Pick", told(a), rows)
		}
	}
}

// P3.2: rows that are not of a, wherever they stand.
func TestPickOfOtherRows(t *testing.T) {
	for _, a := range mixed() {
		for _, r := range []int{-1, a.Rows, a.Rows + 1, -a.Rows - 1, 1 << 32, math.MaxInt, math.MinInt} {
			for _, rows := range picks(a.Rows) {
				if len(rows) == 0 || len(rows) == api.MaxSide {
					rows = []int{r}
				}
				for i := range rows {
					wrong := slices.Clone(rows)
					wrong[i] = r
					got, err := matrix.Pick(a, wrong)
					refused(t, got, err, api.ErrMatrixForm, "Pick", told(a), r)
				}
			}
		}
	}
}

// P3.2: as many rows as may be, and one more.
func TestPickOfManyRows(t *testing.T) {
	for _, a := range []api.Matrix{of(1, 0), of(1, 1, 7), of(2, 2, 1, 2, 3, 4), identityOf(256)} {
		got, err := matrix.Pick(a, make([]int, 256))
		same(t, got, err, made(256, a.Cols, func(r, c int) byte { return at(a, 0, c) }), "Pick", told(a))
		for _, n := range []int{257, 512, 1 << 16} {
			got, err = matrix.Pick(a, make([]int, n))
			refused(t, got, err, api.ErrMatrixForm, "Pick", told(a), n)
		}
	}
}

// P3.2
func TestPickOfBad(t *testing.T) {
	for _, a := range bad() {
		for _, rows := range [][]int{nil, {0}, {0, 0}, {1}, {-1}, make([]int, 257)} {
			got, err := matrix.Pick(a, rows)
			refused(t, got, err, api.ErrMatrixForm, "Pick", told(a), len(rows))
		}
	}
}

// inverted asks for an inverse, and holds its products with a on both sides against the identity.
func inverted(t *testing.T, f *gf.Field, a api.Matrix) {
	t.Helper()
	got, err := matrix.Invert(f, a)
	if err != api.OK || matrix.Check(got) != api.OK || got.Rows != a.Rows || got.Cols != a.Cols {
		t.Fatalf("Invert(%v) = %v, %d", told(a), told(got), err)
	}
	if one := identityOf(a.Rows); !equal(productOf(got, a), one) || !equal(productOf(a, got), one) {
		t.Fatalf("Invert(%v) = %v, which is no inverse", told(a), told(got))
	}
}

func singular(t *testing.T, f *gf.Field, a api.Matrix) {
	t.Helper()
	got, err := matrix.Invert(f, a)
	refused(t, got, err, api.ErrMatrixSingular, "Invert", told(a))
}

// all are the square matrices of so many rows out of some numbers.
func all(n int, numbers []byte, try func(a api.Matrix)) {
	a := of(n, n, make([]byte, n*n)...)
	var fill func(i int)
	fill = func(i int) {
		if i == n*n {
			try(a)
			return
		}
		for _, number := range numbers {
			a.A[i] = number
			fill(i + 1)
		}
	}
	fill(0)
}

// P3.3: whether there is an inverse is told by the determinant, which needs no steps of rows.
func TestInvertSmall(t *testing.T) {
	f := gf.New()
	try := func(a api.Matrix) {
		if determinant(a) == 0 {
			singular(t, f, a)
			return
		}
		inverted(t, f, a)
	}
	var numbers []byte
	for a := range 256 {
		numbers = append(numbers, byte(a))
	}
	all(0, numbers, try)
	all(1, numbers, try)
	all(2, []byte{0, 1, 2, 3, 0x1D, 0x80, 0x8E, 0xFF}, try)
	all(3, []byte{0, 1, 7}, try)
	all(4, []byte{0, 1}, try)
}

// P3.3: an inverse of nothing is nothing.
func TestInvertOfNothing(t *testing.T) {
	got, err := matrix.Invert(gf.New(), of(0, 0))
	same(t, got, err, of(0, 0), "Invert")
}

// moved is the matrix whose product with another puts its rows at other places.
func moved(n int, place func(r int) int) api.Matrix {
	a := of(n, n, make([]byte, n*n)...)
	for r := range n {
		a.A[r*n+place(r)] = 1
	}
	return a
}

// triangle has an inverse, with numbers on the diagonal that are not 0 and noughts below it.
func triangle(n int) api.Matrix {
	number := mixer(uint32(n))
	return made(n, n, func(r, c int) byte {
		switch a := number(r, c); {
		case c < r:
			return 0
		case c == r:
			return a | 1
		default:
			return a
		}
	})
}

// P3.3: rows must change places, at one step, at each, or to the last row and back.
func TestInvertWithRowsThatChangePlaces(t *testing.T) {
	f := gf.New()
	for _, n := range []int{2, 3, 4, 7, 64, 256} {
		for _, place := range []func(r int) int{
			func(r int) int { return n - 1 - r },
			func(r int) int { return (r + 1) % n },
			func(r int) int { return (r + n - 1) % n },
			func(r int) int { return min(r^1, n-1) }, // neighbours; the last of an odd number stays
		} {
			move := moved(n, place)
			inverted(t, f, move)
			inverted(t, f, productOf(move, triangle(n)))
			inverted(t, f, productOf(triangle(n), move))
		}
	}
	got, err := matrix.Invert(f, of(2, 2, 0, 1, 1, 0))
	same(t, got, err, of(2, 2, 0, 1, 1, 0), "Invert")
	got, err = matrix.Invert(f, of(3, 3, 0, 2, 0, 0, 0, 1, 1, 0, 0))
	same(t, got, err, of(3, 3, 0, 0, 1, 142, 0, 0, 0, 1, 0), "Invert")
}

// P3.3: where a step begins the steps ahead of it have made a nought.
func TestInvertWithNoughtsThatStepsMake(t *testing.T) {
	f := gf.New()
	inverted(t, f, of(3, 3, 1, 1, 0, 1, 1, 1, 0, 1, 1))
	inverted(t, f, of(3, 3, 2, 4, 1, 1, 2, 7, 5, 6, 8))
	singular(t, f, of(3, 3, 1, 2, 3, 4, 5, 6, 5, 7, 5))
}

// P3.3: those of a code, in which each matrix has an inverse.
func TestInvertOfCodes(t *testing.T) {
	f := gf.New()
	inverse := func(a int) byte { return byte(slices.Index(products[a][:], 1)) }
	for _, n := range []int{1, 2, 16, 128} {
		inverted(t, f, made(n, n, func(r, c int) byte { return inverse((n + r) ^ c) }))
	}
	powers := made(256, 256, func(r, c int) byte {
		power := byte(1)
		for range c {
			power = products[power][r]
		}
		return power
	})
	inverted(t, f, powers)
}

// P3.3: great ones without an inverse: a row or a column is a sum of others, or nought.
func TestInvertOfGreatSingular(t *testing.T) {
	f := gf.New()
	for _, n := range []int{2, 5, 33, 256} {
		singular(t, f, of(n, n, make([]byte, n*n)...))
		singular(t, f, made(n, n, func(r, c int) byte { return byte(c + 1) }))
		for _, i := range []int{0, n / 2, n - 1} {
			for _, spoil := range []func(a api.Matrix, j int){
				func(a api.Matrix, j int) { a.A[i*n+j] = 0 },
				func(a api.Matrix, j int) { a.A[j*n+i] = 0 },
				func(a api.Matrix, j int) { a.A[i*n+j] = products[9][at(a, (i+1)%n, j)] },
				func(a api.Matrix, j int) { a.A[j*n+i] = products[9][at(a, j, (i+1)%n)] },
			} {
				a := triangle(n)
				for j := range n {
					spoil(a, j)
				}
				singular(t, f, a)
			}
			singular(t, f, sumInRow(n, i))
		}
	}
}

// sumInRow has in the row i the sum of all others.
func sumInRow(n, i int) api.Matrix {
	a := made(n, n, mixer(uint32(n+i)))
	for c := range n {
		a.A[i*n+c] = 0
		for r := range n {
			if r != i {
				a.A[i*n+c] ^= at(a, r, c)
			}
		}
	}
	return a
}

// P3.3: one that is not square, or may not be, is refused ahead of one that has no inverse.
func TestInvertOfOtherForms(t *testing.T) {
	f := gf.New()
	for _, a := range mixed() {
		if a.Rows != a.Cols {
			got, err := matrix.Invert(f, a)
			refused(t, got, err, api.ErrMatrixForm, "Invert", told(a))
		}
	}
	for _, a := range append(bad(), of(2, 3, make([]byte, 6)...), of(0, 1), of(1, 0), of(256, 255, make([]byte, 256*255)...)) {
		got, err := matrix.Invert(f, a)
		refused(t, got, err, api.ErrMatrixForm, "Invert", told(a))
	}
}

// P3.4: an inverse's product is the identity on both sides, by Mul itself, and its inverse is the matrix.
func TestInverseOnBothSides(t *testing.T) {
	f := gf.New()
	for _, n := range sides {
		a := productOf(moved(n, func(r int) int { return n - 1 - r }), triangle(n))
		b, err := matrix.Invert(f, a)
		if err != api.OK {
			t.Fatalf("Invert of %d rows: %d", n, err)
		}
		got, err := matrix.Mul(f, a, b)
		same(t, got, err, identityOf(n), "Mul", n)
		got, err = matrix.Mul(f, b, a)
		same(t, got, err, identityOf(n), "Mul", n)
		got, err = matrix.Invert(f, b)
		same(t, got, err, a, "Invert", n)
	}
}

// P3.4: products hang on no brackets; the identity changes nothing on both sides.
func TestBrackets(t *testing.T) {
	f := gf.New()
	mul := func(a, b api.Matrix) api.Matrix {
		t.Helper()
		p, err := matrix.Mul(f, a, b)
		if err != api.OK {
			t.Fatalf("Mul(%v, %v): %d", told(a), told(b), err)
		}
		return p
	}
	few := []int{0, 1, 2, 3, 17}
	for _, i := range few {
		for _, j := range few {
			a := made(i, j, mixer(1))
			if !equal(mul(identityOf(i), a), a) || !equal(mul(a, identityOf(j)), a) {
				t.Fatalf("the identity changes %v", told(a))
			}
			for _, k := range few {
				for _, l := range few {
					b, c := made(j, k, mixer(2)), made(k, l, mixer(3))
					if !equal(mul(mul(a, b), c), mul(a, mul(b, c))) {
						t.Fatalf("products of %d, %d, %d, %d hang on brackets", i, j, k, l)
					}
				}
			}
		}
	}
}

// P3.2, P3.3, R1, R2: no field is told ahead of all else.
func TestWithoutField(t *testing.T) {
	forms := append(bad(), of(0, 0), of(1, 1, 0), of(1, 1, 2), of(2, 2, 1, 1, 1, 1), of(2, 3, 1, 2, 3, 4, 5, 6))
	for _, a := range forms {
		got, err := matrix.Invert(nil, a)
		refused(t, got, err, api.ErrArg, "Invert", told(a))
		for _, b := range forms {
			got, err = matrix.Mul(nil, a, b)
			refused(t, got, err, api.ErrArg, "Mul", told(a), told(b))
		}
	}
}

// R1: a field made by hand, which gf answers for as for one that New made.
func TestFieldByHand(t *testing.T) {
	f := &gf.Field{}
	a := of(3, 3, 0, 2, 9, 255, 0, 1, 1, 7, 0)
	got, err := matrix.Mul(f, a, a)
	same(t, got, err, productOf(a, a), "Mul", a)
	inverted(t, f, a)
	singular(t, f, of(2, 2, 3, 5, 3, 5))
}

// answers are all matrices that the calls answer of two square ones of the same side.
func answers(t *testing.T, f *gf.Field, a, b api.Matrix, rows []int) []api.Matrix {
	t.Helper()
	var got []api.Matrix
	put := func(m api.Matrix, err api.Errno) {
		t.Helper()
		if err != api.OK {
			t.Fatalf("%v, %v, %v: %d", told(a), told(b), rows, err)
		}
		got = append(got, m)
	}
	put(matrix.Identity(a.Rows))
	put(matrix.Identity(a.Rows))
	put(matrix.Mul(f, a, b))
	put(matrix.Mul(f, b, a))
	put(matrix.Mul(f, a, a))
	put(matrix.Invert(f, a))
	put(matrix.Invert(f, b))
	put(matrix.Pick(a, rows))
	put(matrix.Pick(b, rows))
	return got
}

// roomy is a list with spare room behind it that is no nought.
func roomy[T byte | int](list []T) []T {
	return append(slices.Clone(list), 0x71, 0x72, 0x73, 0x74, 0x75)[:len(list)]
}

// overwrite fills a list and its spare room.
func overwrite[T byte | int](list []T, a T) {
	list = list[:cap(list)]
	for i := range list {
		list[i] = a
	}
}

func copies(matrices []api.Matrix) []api.Matrix {
	var all []api.Matrix
	for _, a := range matrices {
		all = append(all, of(a.Rows, a.Cols, slices.Clone(a.A)...))
	}
	return all
}

// pairs are square matrices that have inverses, with rows of theirs; the identity and whole picks are among them, as these might be answered uncopied.
func pairs(try func(a, b api.Matrix, rows []int)) {
	for _, n := range []int{0, 1, 2, 5, 32} {
		back := func(r int) int { return n - 1 - r }
		for _, rows := range picks(n) {
			try(identityOf(n), triangle(n), rows)
			try(moved(n, back), productOf(triangle(n), moved(n, back)), rows)
		}
	}
}

// R4: what is handed in stays as it was, its spare room too, and is not kept.
func TestArgumentsStay(t *testing.T) {
	f := gf.New()
	pairs(func(a, b api.Matrix, rows []int) {
		a.A, b.A, rows = roomy(a.A), roomy(b.A), roomy(rows)
		wholeA, wholeB, wholeRows := slices.Clone(a.A[:cap(a.A)]), slices.Clone(b.A[:cap(b.A)]), slices.Clone(rows[:cap(rows)])
		got := answers(t, f, a, b, rows)
		matrix.Check(a)
		if !bytes.Equal(a.A[:cap(a.A)], wholeA) || !bytes.Equal(b.A[:cap(b.A)], wholeB) || !slices.Equal(rows[:cap(rows)], wholeRows) {
			t.Fatalf("what was handed in is another: %v, %v, %v", told(a), told(b), rows)
		}
		want := copies(got)
		overwrite(a.A, 0x55)
		overwrite(b.A, 0x66)
		overwrite(rows, 0)
		for i := range got {
			same(t, got[i], api.OK, want[i], "an answer behind a change of what was handed in", i)
		}
	})
}

// R3, R4: nor does a call that is refused change what is handed in.
func TestArgumentsStayBesideErrors(t *testing.T) {
	f := gf.New()
	a := of(3, 3, 0, 3, 0, 5, 0, 6, 1, 2, 0)
	flat := of(3, 3, 0, 2, 3, 0, 2, 3, 7, 0, 1)
	before := copies([]api.Matrix{a, flat})
	singular(t, f, flat)
	for _, b := range bad() {
		matrix.Mul(f, a, b)
		matrix.Mul(nil, a, b)
	}
	matrix.Invert(nil, a)
	matrix.Pick(a, []int{0, 3})
	same(t, a, api.OK, before[0], "what was handed in")
	same(t, flat, api.OK, before[1], "what was handed in")
}

// P3.1, R4: what is answered lies in memory of its own, spare room too.
func TestAnswersStandAlone(t *testing.T) {
	f := gf.New()
	pairs(func(a, b api.Matrix, rows []int) {
		a.A, b.A, rows = roomy(a.A), roomy(b.A), roomy(rows)
		wholeA, wholeB, wholeRows := slices.Clone(a.A[:cap(a.A)]), slices.Clone(b.A[:cap(b.A)]), slices.Clone(rows[:cap(rows)])
		got := answers(t, f, a, b, rows)
		want := copies(got)
		for i := range got {
			overwrite(got[i].A, 0x77)
			for j := i + 1; j < len(got); j++ {
				same(t, got[j], api.OK, want[j], "an answer behind a change of another", i, j)
			}
		}
		if !bytes.Equal(a.A[:cap(a.A)], wholeA) || !bytes.Equal(b.A[:cap(b.A)], wholeB) || !slices.Equal(rows[:cap(rows)], wholeRows) {
			t.Fatalf("what was handed in is another: %v, %v, %v", told(a), told(b), rows)
		}
		for i, again := range answers(t, f, a, b, rows) {
			same(t, again, api.OK, want[i], "an answer behind a change of those ahead of it", i)
		}
	})
}

// R4: both arguments may be one list, or parts of one.
func TestArgumentsThatShare(t *testing.T) {
	f := gf.New()
	whole := []byte{3, 1, 4, 1, 5, 9, 2, 6, 5, 3}
	a, b := of(2, 3, whole[:6]...), of(3, 2, whole[4:]...)
	want := productOf(a, b)
	got, err := matrix.Mul(f, a, b)
	same(t, got, err, want, "Mul of lists that share")
	if !bytes.Equal(whole, []byte{3, 1, 4, 1, 5, 9, 2, 6, 5, 3}) {
		t.Errorf("what was handed in is %v", whole)
	}
}

// R5: spare room changes no answer, nor does whether a list without elements is nil.
func TestCapacityDoesNotTell(t *testing.T) {
	f := gf.New()
	pairs(func(a, b api.Matrix, rows []int) {
		plain := answers(t, f, a, b, rows)
		a.A, b.A, rows = roomy(a.A), roomy(b.A), roomy(rows)
		for i, got := range answers(t, f, a, b, rows) {
			same(t, got, api.OK, plain[i], "an answer of lists with spare room", i)
		}
	})
	for _, none := range [][]byte{nil, {}} {
		got, err := matrix.Invert(f, of(0, 0, none...))
		same(t, got, err, of(0, 0), "Invert")
		got, err = matrix.Mul(f, api.Matrix{Rows: 1, A: none}, api.Matrix{Cols: 1, A: none})
		same(t, got, err, of(1, 1, 0), "Mul")
		got, err = matrix.Pick(api.Matrix{Rows: 2, A: none}, []int{1})
		same(t, got, err, of(1, 0), "Pick")
	}
}
