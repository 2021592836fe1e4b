package gf_test

import (
	"math"
	"testing"

	"aumbry/api"
	"aumbry/gf"
)

// product multiplies as chapter 1 defines it, without powers: bit by bit, then less multiples of 0x11D.
func product(a, b byte) byte {
	var wide uint16
	for i := range 8 {
		if b>>i&1 == 1 {
			wide ^= uint16(a) << i
		}
	}
	for i := 14; i >= 8; i-- {
		if wide>>i&1 == 1 {
			wide ^= 0x11D << (i - 8)
		}
	}
	return byte(wide)
}

// power is a's power of n by squares, so that the greatest n are asked without a power of 255 being 1.
func power(a byte, n uint64) byte {
	r := byte(1)
	for ; n > 0; n >>= 1 {
		if n&1 == 1 {
			r = product(r, a)
		}
		a = product(a, a)
	}
	return r
}

// inverse is sought among all numbers.
func inverse(t *testing.T, a byte) byte {
	t.Helper()
	for b := range 256 {
		if product(a, byte(b)) == 1 {
			return byte(b)
		}
	}
	t.Fatalf("no inverse of %d", a)
	return 0
}

// fields are one that New made, a copy of it, and one that is made by hand: all are the same field.
func fields() map[string]*gf.Field {
	made := gf.New()
	twin := *made
	return map[string]*gf.Field{"made": made, "copied": &twin, "by hand": {}}
}

// P1.1
func TestMulIsTheProduct(t *testing.T) {
	for name, f := range fields() {
		for a := range 256 {
			for b := range 256 {
				want := product(byte(a), byte(b))
				if got := f.Mul(byte(a), byte(b)); got != want {
					t.Fatalf("%s: Mul(%d, %d) = %d, want %d", name, a, b, got, want)
				}
			}
		}
	}
}

// P1.1
func TestInv(t *testing.T) {
	for name, f := range fields() {
		for a := 1; a < 256; a++ {
			want := inverse(t, byte(a))
			if got, err := f.Inv(byte(a)); got != want || err != api.OK {
				t.Fatalf("%s: Inv(%d) = %d, %d, want %d", name, a, got, err, want)
			}
		}
		if got, err := f.Inv(0); got != 0 || err != api.ErrGfZero {
			t.Errorf("%s: Inv(0) = %d, %d", name, got, err)
		}
	}
}

// P1.1
func TestDiv(t *testing.T) {
	for name, f := range fields() {
		for b := range 256 {
			for a := range 256 {
				got, err := f.Div(byte(a), byte(b))
				if b == 0 {
					if got != 0 || err != api.ErrGfZero {
						t.Fatalf("%s: Div(%d, 0) = %d, %d", name, a, got, err)
					}
					continue
				}
				if err != api.OK || product(got, byte(b)) != byte(a) {
					t.Fatalf("%s: Div(%d, %d) = %d, %d", name, a, b, got, err)
				}
			}
		}
	}
}

// P1.2: every base, and powers on both sides of 0 and of multiples of 255.
func TestPowNearNought(t *testing.T) {
	for name, f := range fields() {
		for a := range 256 {
			want := byte(1)
			for n := range 600 {
				if got, err := f.Pow(byte(a), n); got != want || err != api.OK {
					t.Fatalf("%s: Pow(%d, %d) = %d, %d, want %d", name, a, n, got, err, want)
				}
				if n > 0 && a > 0 {
					got, err := f.Pow(byte(a), -n)
					if product(got, want) != 1 || err != api.OK {
						t.Fatalf("%s: Pow(%d, %d) = %d, %d", name, a, -n, got, err)
					}
				}
				want = product(want, byte(a))
			}
		}
	}
}

// P1.2, R1: the greatest and the least powers.
func TestPowFarFromNought(t *testing.T) {
	f := gf.New()
	for a := range 256 {
		for _, n := range []int{math.MaxInt, math.MaxInt - 1, math.MaxInt32, 1 << 32, 255 << 40} {
			if got, err := f.Pow(byte(a), n); got != power(byte(a), uint64(n)) || err != api.OK {
				t.Fatalf("Pow(%d, %d) = %d, %d", a, n, got, err)
			}
		}
		if a == 0 {
			continue
		}
		for _, n := range []int{math.MinInt, math.MinInt + 1, math.MinInt32, -1 << 32, -255 << 40} {
			got, err := f.Pow(byte(a), n)
			if product(got, power(byte(a), -uint64(n))) != 1 || err != api.OK {
				t.Fatalf("Pow(%d, %d) = %d, %d", a, n, got, err)
			}
		}
	}
}

// P1.2: powers of the number 0.
func TestPowOfNought(t *testing.T) {
	for name, f := range fields() {
		for _, c := range []struct {
			n    int
			want byte
			err  api.Errno
		}{
			{0, 1, api.OK},
			{1, 0, api.OK},
			{254, 0, api.OK},
			{255, 0, api.OK},
			{510, 0, api.OK},
			{math.MaxInt, 0, api.OK},
			{-1, 0, api.ErrGfZero},
			{-255, 0, api.ErrGfZero},
			{math.MinInt, 0, api.ErrGfZero},
		} {
			if got, err := f.Pow(0, c.n); got != c.want || err != c.err {
				t.Errorf("%s: Pow(0, %d) = %d, %d, want %d, %d", name, c.n, got, err, c.want, c.err)
			}
		}
	}
}

// P1.2
func TestLog(t *testing.T) {
	for name, f := range fields() {
		a := byte(1)
		for n := range 255 {
			if got, err := f.Log(a); got != n || err != api.OK {
				t.Fatalf("%s: Log(%d) = %d, %d, want %d", name, a, got, err, n)
			}
			a = product(a, 2)
		}
		if got, err := f.Log(0); got != 0 || err != api.ErrGfZero {
			t.Errorf("%s: Log(0) = %d, %d", name, got, err)
		}
	}
}

// P1.3: no order, no brackets, sums, and 1.
func TestProductsAreAField(t *testing.T) {
	f := gf.New()
	for i := range 256 {
		a := byte(i)
		if f.Mul(a, 1) != a || f.Mul(1, a) != a {
			t.Fatalf("1 changes %d", a)
		}
		for j := range 256 {
			b := byte(j)
			ab := f.Mul(a, b)
			if ab != f.Mul(b, a) {
				t.Fatalf("%d and %d hang on their order", a, b)
			}
			for k := range 256 {
				c := byte(k)
				if f.Mul(ab, c) != f.Mul(a, f.Mul(b, c)) {
					t.Fatalf("%d, %d and %d hang on brackets", a, b, c)
				}
				if f.Mul(a, b^c) != ab^f.Mul(a, c) {
					t.Fatalf("%d, %d and %d are not distributive", a, b, c)
				}
			}
		}
	}
}

// P1.3: each number but 0 is one power of 2, and its power of 255 is 1.
func TestPowersOfTwo(t *testing.T) {
	f := gf.New()
	var times [256]int
	for n := range 255 {
		p, err := f.Pow(2, n)
		if err != api.OK {
			t.Fatalf("Pow(2, %d): %d", n, err)
		}
		times[p]++
	}
	for a := 1; a < 256; a++ {
		if times[a] != 1 {
			t.Errorf("%d is a power of 2 %d times", a, times[a])
		}
		if p, err := f.Pow(byte(a), 255); p != 1 || err != api.OK {
			t.Errorf("Pow(%d, 255) = %d, %d", a, p, err)
		}
	}
	if times[0] != 0 {
		t.Error("0 is a power of 2")
	}
}

// The chapter's examples.
func TestExamples(t *testing.T) {
	f := gf.New()
	if a, b, c := f.Mul(2, 128), f.Mul(3, 7), f.Mul(0, 9); a != 29 || b != 9 || c != 0 {
		t.Errorf("Mul: %d, %d, %d", a, b, c)
	}
	for _, c := range []struct {
		a    byte
		want byte
		err  api.Errno
	}{{2, 142, api.OK}, {1, 1, api.OK}, {0, 0, api.ErrGfZero}} {
		if got, err := f.Inv(c.a); got != c.want || err != c.err {
			t.Errorf("Inv(%d) = %d, %d", c.a, got, err)
		}
	}
	for _, c := range []struct {
		a    byte
		n    int
		want byte
	}{{2, 8, 29}, {2, -1, 142}, {0, 0, 1}} {
		if got, err := f.Pow(c.a, c.n); got != c.want || err != api.OK {
			t.Errorf("Pow(%d, %d) = %d, %d", c.a, c.n, got, err)
		}
	}
	if n, err := f.Log(29); n != 8 || err != api.OK {
		t.Errorf("Log(29) = %d, %d", n, err)
	}
}

// The section Errors.
func TestErrorsHaveTheirNumbers(t *testing.T) {
	if api.OK != 0 || api.ErrArg != 1 || api.ErrGfZero != 10 {
		t.Errorf("OK %d, ErrArg %d, ErrGfZero %d", api.OK, api.ErrArg, api.ErrGfZero)
	}
}

// R1, R2: a nil field, ahead of 0's own error, and noughts beside it.
func TestNilField(t *testing.T) {
	var f *gf.Field
	for _, a := range []byte{0, 1, 2, 255} {
		for _, b := range []byte{0, 1, 2, 255} {
			if got := f.Mul(a, b); got != 0 {
				t.Errorf("Mul(%d, %d) = %d", a, b, got)
			}
			if got, err := f.Div(a, b); got != 0 || err != api.ErrArg {
				t.Errorf("Div(%d, %d) = %d, %d", a, b, got, err)
			}
		}
		if got, err := f.Inv(a); got != 0 || err != api.ErrArg {
			t.Errorf("Inv(%d) = %d, %d", a, got, err)
		}
		for _, n := range []int{math.MinInt, -1, 0, 1, math.MaxInt} {
			if got, err := f.Pow(a, n); got != 0 || err != api.ErrArg {
				t.Errorf("Pow(%d, %d) = %d, %d", a, n, got, err)
			}
		}
		if got, err := f.Log(a); got != 0 || err != api.ErrArg {
			t.Errorf("Log(%d) = %d, %d", a, got, err)
		}
	}
}

// R3, R5: no call, with an error or without, changes a field.
func TestCallsChangeNothing(t *testing.T) {
	for name, f := range fields() {
		before := *f
		f.Mul(7, 9)
		f.Inv(0)
		f.Inv(5)
		f.Div(3, 0)
		f.Div(3, 4)
		f.Pow(0, -1)
		f.Pow(2, 1000)
		f.Log(0)
		f.Log(77)
		if *f != before {
			t.Errorf("%s: the field is another one", name)
		}
	}
}

// R4: what New answers is new memory: emptying one field leaves another as it was.
func TestNewIsNewMemory(t *testing.T) {
	f, g := gf.New(), gf.New()
	if f == nil || g == nil || f == g {
		t.Fatalf("New: %p, %p", f, g)
	}
	before := *g
	*f = gf.Field{}
	if *g != before || *gf.New() != before {
		t.Error("two fields share memory")
	}
}
