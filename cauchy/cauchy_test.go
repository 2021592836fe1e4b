package cauchy_test

import (
	"bytes"
	"math"
	"slices"
	"testing"

	"aumbry/api"
	"aumbry/cauchy"
	"aumbry/gf"
	"aumbry/matrix"
)

// product multiplies two numbers bit by bit, without package gf.
func product(a, b byte) byte {
	var r byte
	for range 8 {
		if b&1 == 1 {
			r ^= a
		}
		high := a&0x80 != 0
		a <<= 1
		if high {
			a ^= 0x1D
		}
		b >>= 1
	}
	return r
}

// inverses are sought by trying all numbers; that of 0 stays 0.
var inverses = func() (all [256]byte) {
	for a := range 256 {
		for b := range 256 {
			if product(byte(a), byte(b)) == 1 {
				all[a] = byte(b)
			}
		}
	}
	return all
}()

func of(rows, cols int, numbers ...byte) api.Matrix {
	return api.Matrix{Rows: rows, Cols: cols, A: numbers}
}

// wanted is a matrix whose numbers are told by their row and column.
func wanted(rows, cols int, number func(r, c int) byte) api.Matrix {
	a := of(rows, cols)
	for r := range rows {
		for c := range cols {
			a.A = append(a.A, number(r, c))
		}
	}
	return a
}

func identity(r, c int) byte {
	if r == c {
		return 1
	}
	return 0
}

// parityOf is told place by place, as the chapter's words say.
func parityOf(k, m int) api.Matrix {
	return wanted(m, k, func(i, j int) byte { return inverses[(k+i)^j] })
}

func generatorOf(k, m int) api.Matrix {
	return wanted(k+m, k, func(r, c int) byte {
		if r < k {
			return identity(r, c)
		}
		return inverses[r^c]
	})
}

func checksOf(k, m int) api.Matrix {
	return wanted(m, k+m, func(r, c int) byte {
		if c < k {
			return inverses[(k+r)^c]
		}
		return identity(r, c-k)
	})
}

// call is one of the three calls that answer a matrix, beside what it should answer.
type call struct {
	name string
	ask  func(f *gf.Field, k, m int) (api.Matrix, api.Errno)
	want func(k, m int) api.Matrix
}

func calls() []call {
	return []call{
		{"Parity", cauchy.Parity, parityOf},
		{"Generator", cauchy.Generator, generatorOf},
		{"Checks", cauchy.Checks, checksOf},
	}
}

// numbers are those at the limits, and others, some of whose sums and products wrap round.
var numbers = []int{
	0, 1, 2, 3, 16, 127, 128, 129, 200, 254, 255, 256, 257, 258, 511, 512, 1 << 16, 1 << 31, 1 << 32, 1<<32 + 1, 1 << 62,
	-1, -2, -255, -256, -257, -1 << 32, -1 << 62,
	math.MaxInt, math.MaxInt - 1, math.MaxInt - 255, math.MinInt, math.MinInt + 1, math.MinInt + 256,
}

// mayBe asks the chapter's words one by one, without sums that wrap round.
func mayBe(k, m int) bool {
	return k >= 1 && k <= 256 && m >= 0 && m <= 256-k
}

func equal(a, b api.Matrix) bool {
	return a.Rows == b.Rows && a.Cols == b.Cols && bytes.Equal(a.A, b.A)
}

// told is a matrix, for a message: the sides alone, if it is great.
func told(a api.Matrix) any {
	if len(a.A) > 40 {
		return [2]int{a.Rows, a.Cols}
	}
	return a
}

// same wants an answer without an error.
func same(t *testing.T, got api.Matrix, err api.Errno, want api.Matrix, name string, k, m int) {
	t.Helper()
	if err != api.OK || !equal(got, want) {
		t.Fatalf("%s(%d, %d) = %v, %d, want %v", name, k, m, told(got), err, told(want))
	}
}

// refused wants an error, and zero values beside it.
func refused(t *testing.T, got api.Matrix, err, want api.Errno, name string, k, m int) {
	t.Helper()
	if err != want || got.Rows != 0 || got.Cols != 0 || len(got.A) != 0 {
		t.Fatalf("%s(%d, %d) = %v, %d, want error %d", name, k, m, told(got), err, want)
	}
}

// The chapter's examples.
func TestExamples(t *testing.T) {
	f := gf.New()
	got, err := cauchy.Parity(f, 2, 1)
	same(t, got, err, of(1, 2, 142, 244), "Parity", 2, 1)
	got, err = cauchy.Generator(f, 1, 1)
	same(t, got, err, of(2, 1, 1, 1), "Generator", 1, 1)
	got, err = cauchy.Checks(f, 1, 1)
	same(t, got, err, of(1, 2, 1, 1), "Checks", 1, 1)
	for _, example := range []struct {
		k, m int
		want api.Errno
	}{{0, 1, api.ErrConfig}, {200, 57, api.ErrConfig}, {256, 0, api.OK}} {
		if err := cauchy.Check(example.k, example.m); err != example.want {
			t.Errorf("Check(%d, %d) = %d, want %d", example.k, example.m, err, example.want)
		}
	}
}

// P5.2: matrices that are worked out by hand.
func TestByHand(t *testing.T) {
	f := gf.New()
	got, err := cauchy.Parity(f, 2, 2)
	same(t, got, err, of(2, 2, 142, 244, 244, 142), "Parity", 2, 2)
	got, err = cauchy.Generator(f, 2, 1)
	same(t, got, err, of(3, 2, 1, 0, 0, 1, 142, 244), "Generator", 2, 1)
	got, err = cauchy.Checks(f, 2, 2)
	same(t, got, err, of(2, 4, 142, 244, 1, 0, 244, 142, 0, 1), "Checks", 2, 2)
	got, err = cauchy.Generator(f, 1, 2)
	same(t, got, err, of(3, 1, 1, 1, 142), "Generator", 1, 2)
	got, err = cauchy.Checks(f, 1, 2)
	same(t, got, err, of(2, 3, 1, 1, 0, 142, 0, 1), "Checks", 1, 2)
}

// The section Errors, and the limit.
func TestNumbers(t *testing.T) {
	if _, err := cauchy.Parity(nil, 1, 1); err != 1 {
		t.Errorf("without a field: %d", err)
	}
	if err := cauchy.Check(0, 0); err != 50 {
		t.Errorf("no shards: %d", err)
	}
	if api.MaxShards != 256 {
		t.Errorf("MaxShards is %d", api.MaxShards)
	}
}

// P5.1: all pairs of the numbers about the limits.
func TestCheck(t *testing.T) {
	asked := func(k, m int) {
		want := api.ErrConfig
		if mayBe(k, m) {
			want = api.OK
		}
		if err := cauchy.Check(k, m); err != want {
			t.Errorf("Check(%d, %d) = %d, want %d", k, m, err, want)
		}
	}
	for k := -3; k <= 260; k++ {
		for m := -3; m <= 260; m++ {
			asked(k, m)
		}
	}
	for _, k := range numbers {
		for _, m := range numbers {
			asked(k, m)
		}
	}
}

// P5.1: the edges one by one, so that they do not hang on mayBe.
func TestCheckEdges(t *testing.T) {
	for _, pair := range [][2]int{{1, 0}, {1, 1}, {256, 0}, {255, 1}, {1, 255}, {128, 128}, {200, 56}, {254, 2}} {
		if err := cauchy.Check(pair[0], pair[1]); err != api.OK {
			t.Errorf("Check%v = %d", pair, err)
		}
	}
	for _, pair := range [][2]int{
		{0, 0}, {0, 1}, {0, 256}, {-1, 1}, {1, -1}, {-1, -1}, {256, -1}, {-1, 256},
		{257, 0}, {256, 1}, {255, 2}, {1, 256}, {0, 257}, {128, 129}, {256, 256}, {257, -1}, {-1, 257}, {300, -100},
		{math.MaxInt, math.MaxInt}, {math.MinInt, math.MinInt}, {math.MaxInt, math.MinInt}, {math.MinInt, math.MaxInt},
		{1, math.MaxInt}, {math.MaxInt, 1}, {1, math.MinInt}, {math.MinInt, 1},
	} {
		if err := cauchy.Check(pair[0], pair[1]); err != api.ErrConfig {
			t.Errorf("Check%v = %d", pair, err)
		}
	}
}

// P5.2, R2: what the calls answer at all pairs of numbers, those that may not be among them.
func TestMatrices(t *testing.T) {
	f := gf.New()
	for _, c := range calls() {
		for _, k := range numbers {
			for _, m := range numbers {
				got, err := c.ask(f, k, m)
				if mayBe(k, m) {
					same(t, got, err, c.want(k, m), c.name, k, m)
				} else {
					refused(t, got, err, api.ErrConfig, c.name, k, m)
				}
			}
		}
	}
}

// P5.2: all small codes, and all that have as many shards as may be.
func TestManyCodes(t *testing.T) {
	f := gf.New()
	for _, c := range calls() {
		for k := 1; k <= 20; k++ {
			for m := range 21 {
				got, err := c.ask(f, k, m)
				same(t, got, err, c.want(k, m), c.name, k, m)
			}
		}
		for k := 1; k <= api.MaxShards; k++ {
			got, err := c.ask(f, k, api.MaxShards-k)
			same(t, got, err, c.want(k, api.MaxShards-k), c.name, k, api.MaxShards-k)
		}
	}
}

// P5.2: without parity shards there are no rows, and columns all the same.
func TestNoParity(t *testing.T) {
	f := gf.New()
	for _, k := range []int{1, 2, 255, 256} {
		got, err := cauchy.Parity(f, k, 0)
		same(t, got, err, of(0, k), "Parity", k, 0)
		got, err = cauchy.Checks(f, k, 0)
		same(t, got, err, of(0, k), "Checks", k, 0)
		want, _ := matrix.Identity(k)
		got, err = cauchy.Generator(f, k, 0)
		same(t, got, err, want, "Generator", k, 0)
	}
}

// P5.2: each number of Parity times the sum of its two points is 1.
func TestParityInverts(t *testing.T) {
	f := gf.New()
	for _, code := range [][2]int{{1, 1}, {2, 1}, {1, 2}, {5, 3}, {17, 30}, {128, 128}, {1, 255}, {255, 1}} {
		k, m := code[0], code[1]
		a, err := cauchy.Parity(f, k, m)
		if err != api.OK || len(a.A) != k*m {
			t.Fatalf("Parity(%d, %d) = %v, %d", k, m, told(a), err)
		}
		for i := range m {
			for j := range k {
				if product(a.A[i*k+j], byte(k+i)^byte(j)) != 1 {
					t.Errorf("Parity(%d, %d) has %d in the row %d and the column %d", k, m, a.A[i*k+j], i, j)
				}
			}
		}
	}
}

// P5.2: Generator's rows are the identity's and Parity's, Checks' columns Parity's and the identity's.
func TestParts(t *testing.T) {
	f := gf.New()
	for _, code := range [][2]int{{1, 0}, {1, 1}, {4, 2}, {2, 7}, {100, 156}} {
		k, m := code[0], code[1]
		parity, _ := cauchy.Parity(f, k, m)
		generator, _ := cauchy.Generator(f, k, m)
		checks, _ := cauchy.Checks(f, k, m)
		one, _ := matrix.Identity(k)
		if !bytes.Equal(generator.A, slices.Concat(one.A, parity.A)) {
			t.Errorf("Generator(%d, %d) = %v", k, m, told(generator))
		}
		one, _ = matrix.Identity(m)
		for i := range m {
			row := slices.Concat(parity.A[i*k:(i+1)*k], one.A[i*m:(i+1)*m])
			if !bytes.Equal(checks.A[i*(k+m):(i+1)*(k+m)], row) {
				t.Errorf("Checks(%d, %d) has the row %v, want %v", k, m, checks.A[i*(k+m):(i+1)*(k+m)], row)
			}
		}
	}
}

// inverts wants an inverse of some rows of a.
func inverts(t *testing.T, f *gf.Field, a api.Matrix, rows []int) {
	t.Helper()
	picked, err := matrix.Pick(a, rows)
	if err != api.OK {
		t.Fatalf("Pick of the rows %v: %d", rows, err)
	}
	if _, err = matrix.Invert(f, picked); err != api.OK {
		t.Fatalf("the rows %v of Generator with %d rows and %d columns: %d", rows, a.Rows, a.Cols, err)
	}
}

// P5.3: any k rows of small codes: all choices.
func TestAnyRows(t *testing.T) {
	f := gf.New()
	for k := 1; k <= 6; k++ {
		for m := range 6 {
			generator, _ := cauchy.Generator(f, k, m)
			for set := range 1 << (k + m) {
				var rows []int
				for r := range k + m {
					if set>>r&1 == 1 {
						rows = append(rows, r)
					}
				}
				if len(rows) == k {
					inverts(t, f, generator, rows)
				}
			}
		}
	}
}

// P5.3: k rows of great codes: the last ones, some of each kind, in any order.
func TestRowsOfGreatCodes(t *testing.T) {
	f := gf.New()
	for _, code := range [][2]int{{1, 255}, {128, 128}, {100, 156}, {200, 56}, {255, 1}, {256, 0}} {
		k, m := code[0], code[1]
		generator, _ := cauchy.Generator(f, k, m)
		var last, every []int
		for r := range k {
			last = append(last, m+r)
			// 77 and the 256 shards have no divisor in common but 1: no row comes twice.
			every = append(every, (r*77+5)%(k+m))
		}
		inverts(t, f, generator, last)
		inverts(t, f, generator, every)
	}
}

// P5.3: the product of Checks with Generator is nought.
func TestChecksOfGenerator(t *testing.T) {
	f := gf.New()
	codes := [][2]int{{128, 128}, {1, 255}, {255, 1}, {256, 0}, {200, 56}}
	for k := 1; k <= 12; k++ {
		for m := range 12 {
			codes = append(codes, [2]int{k, m})
		}
	}
	for _, code := range codes {
		k, m := code[0], code[1]
		generator, _ := cauchy.Generator(f, k, m)
		checks, _ := cauchy.Checks(f, k, m)
		got, err := matrix.Mul(f, checks, generator)
		same(t, got, err, of(m, k, make([]byte, m*k)...), "Checks with Generator", k, m)
	}
}

// R1, P5.1: no field is told ahead of numbers that may not be.
func TestNoField(t *testing.T) {
	for _, c := range calls() {
		for _, k := range numbers {
			for _, m := range numbers {
				got, err := c.ask(nil, k, m)
				refused(t, got, err, api.ErrArg, c.name+" without a field", k, m)
			}
		}
	}
}

// R1: a field that gf.New did not make.
func TestHandMadeField(t *testing.T) {
	for _, c := range calls() {
		for _, code := range [][2]int{{1, 0}, {1, 1}, {3, 2}, {128, 128}} {
			got, err := c.ask(&gf.Field{}, code[0], code[1])
			same(t, got, err, c.want(code[0], code[1]), c.name, code[0], code[1])
		}
		got, err := c.ask(&gf.Field{}, 0, 0)
		refused(t, got, err, api.ErrConfig, c.name, 0, 0)
	}
}

// R4, R5: what is answered is new memory, spare room too: filling it changes no later answer, and no other one.
func TestNewMemory(t *testing.T) {
	f := gf.New()
	for _, c := range calls() {
		for _, code := range [][2]int{{1, 0}, {1, 1}, {4, 3}, {128, 128}} {
			k, m := code[0], code[1]
			kept, err := c.ask(f, k, m)
			same(t, kept, err, c.want(k, m), c.name, k, m)
			filled, _ := c.ask(f, k, m)
			whole := filled.A[:cap(filled.A)]
			for i := range whole {
				whole[i] = 77
			}
			same(t, kept, api.OK, c.want(k, m), c.name+", as it was kept,", k, m)
			for _, again := range calls() {
				got, err := again.ask(f, k, m)
				same(t, got, err, again.want(k, m), again.name+", again,", k, m)
			}
		}
	}
}

// R3, R4: a field goes on as it was, behind answers and errors.
func TestFieldUnchanged(t *testing.T) {
	f := gf.New()
	before := *f
	for _, c := range calls() {
		for _, code := range [][2]int{{3, 2}, {0, 0}, {256, 1}, {1, -1}, {100, 100}} {
			c.ask(f, code[0], code[1])
		}
	}
	if *f != before {
		t.Error("the field was changed")
	}
}
