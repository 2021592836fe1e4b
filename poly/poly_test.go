package poly_test

import (
	"bytes"
	"slices"
	"testing"

	"aumbry/api"
	"aumbry/gf"
	"aumbry/poly"
)

// product multiplies two numbers bit by bit, without package gf.
func product(a, b byte) byte {
	var r byte
	for range 8 {
		if b&1 == 1 {
			r ^= a
		}
		high := a&0x80 != 0
		a <<= 1
		if high {
			a ^= 0x1D
		}
		b >>= 1
	}
	return r
}

// at is p's number at the place i, 0 beyond its end.
func at(p []byte, i int) byte {
	if i < 0 || i >= len(p) {
		return 0
	}
	return p[i]
}

// length is how long p is up to its top, sought from the front.
func length(p []byte) int {
	n := 0
	for i, a := range p {
		if a != 0 {
			n = i + 1
		}
	}
	return n
}

// sumOf and productOf are told place by place, as the chapter's words say.
func sumOf(p, q []byte) []byte {
	var r []byte
	for i := range max(len(p), len(q)) {
		r = append(r, at(p, i)^at(q, i))
	}
	return r[:length(r)]
}

func productOf(p, q []byte) []byte {
	var r []byte
	for i := range len(p) + len(q) {
		var a byte
		for j := range i + 1 {
			a ^= product(at(p, j), at(q, i-j))
		}
		r = append(r, a)
	}
	return r[:length(r)]
}

func valueOf(p []byte, x byte) byte {
	value, power := byte(0), byte(1)
	for _, a := range p {
		value ^= product(a, power)
		power = product(power, x)
	}
	return value
}

// few are all polynomials of up to 3 numbers out of some, those without a top and with noughts above it among them.
func few() [][]byte {
	numbers := []byte{0, 1, 2, 0x80, 0xFF}
	all := [][]byte{nil, {}}
	for _, a := range numbers {
		all = append(all, []byte{a})
		for _, b := range numbers {
			all = append(all, []byte{a, b})
			for _, c := range numbers {
				all = append(all, []byte{a, b, c})
			}
		}
	}
	return all
}

// mixed are polynomials of all numbers and of many lengths; some have noughts above the top, below it, or alone.
func mixed() [][]byte {
	var all [][]byte
	seed := uint32(7)
	next := func() byte {
		seed = seed*1664525 + 1013904223
		return byte(seed >> 24)
	}
	for n := range 24 {
		p := make([]byte, n)
		for i := range p {
			p[i] = next()
		}
		all = append(all, p, append(slices.Clone(p), 0, 0, 0), append([]byte{0, 0}, p...), make([]byte, n))
	}
	long := make([]byte, 300)
	for i := range long {
		long[i] = next()
	}
	return append(all, long)
}

// pairs calls try with each pair of few, and each pair of mixed.
func pairs(try func(p, q []byte)) {
	for _, all := range [][][]byte{few(), mixed()} {
		for _, p := range all {
			for _, q := range all {
				try(p, q)
			}
		}
	}
}

func same(t *testing.T, got, want []byte, call string, arguments ...[]byte) {
	t.Helper()
	if !bytes.Equal(got, want) {
		t.Fatalf("%s of %v = %v, want %v", call, arguments, got, want)
	}
}

// The chapter's examples.
func TestExamples(t *testing.T) {
	f := gf.New()
	same(t, poly.Norm([]byte{1, 2, 0, 0}), []byte{1, 2}, "Norm")
	same(t, poly.Add([]byte{1, 2}, []byte{1, 3, 4}), []byte{0, 1, 4}, "Add")
	same(t, poly.Mul(f, []byte{1, 1}, []byte{2, 1}), []byte{2, 3, 1}, "Mul")
	if got := poly.Eval(f, []byte{1, 1}, 2); got != 3 {
		t.Errorf("Eval = %d", got)
	}
	s, r, err := poly.Divide(f, []byte{2, 3, 1}, []byte{1, 1})
	same(t, s, []byte{2, 1}, "Divide's quotient")
	same(t, r, nil, "Divide's rest")
	if err != api.OK {
		t.Errorf("Divide: %d", err)
	}
	if _, _, err := poly.Divide(f, []byte{1}, []byte{0}); err != api.ErrPolyZero {
		t.Errorf("Divide by nought: %d", err)
	}
	same(t, poly.Deriv([]byte{7, 6, 5, 4}), []byte{6, 0, 4}, "Deriv")
}

// The section Errors.
func TestErrorNumbers(t *testing.T) {
	if _, _, err := poly.Divide(nil, nil, []byte{1}); err != 1 {
		t.Errorf("without a field: %d", err)
	}
	if _, _, err := poly.Divide(gf.New(), nil, nil); err != 20 {
		t.Errorf("by nought: %d", err)
	}
}

// P2.1
func TestNorm(t *testing.T) {
	for _, p := range append(few(), mixed()...) {
		same(t, poly.Norm(p), p[:length(p)], "Norm", p)
	}
}

// P2.1: noughts above a top that stands far below the end.
func TestNormOfManyNoughts(t *testing.T) {
	p := make([]byte, 1<<20)
	same(t, poly.Norm(p), nil, "Norm of noughts")
	p[0] = 9
	same(t, poly.Norm(p), []byte{9}, "Norm of one number")
	p[len(p)-1] = 1
	same(t, poly.Norm(p), p, "Norm with its top at the end")
}

// P2.2
func TestAdd(t *testing.T) {
	pairs(func(p, q []byte) {
		same(t, poly.Add(p, q), sumOf(p, q), "Add", p, q)
	})
}

// P2.1, P2.2: tops that cancel, all numbers or some.
func TestAddCancels(t *testing.T) {
	for _, p := range mixed() {
		same(t, poly.Add(p, p), nil, "Add", p, p)
	}
	same(t, poly.Add([]byte{1, 2, 3}, []byte{4, 0, 3, 0}), []byte{5, 2}, "Add")
}

// P2.2
func TestMul(t *testing.T) {
	f := gf.New()
	pairs(func(p, q []byte) {
		same(t, poly.Mul(f, p, q), productOf(p, q), "Mul", p, q)
	})
}

// P2.2: each pair of numbers.
func TestMulOfNumbers(t *testing.T) {
	f := gf.New()
	for a := range 256 {
		for b := range 256 {
			p, q := []byte{byte(a)}, []byte{byte(b)}
			want := []byte{product(byte(a), byte(b))}
			same(t, poly.Mul(f, p, q), want[:length(want)], "Mul", p, q)
		}
	}
}

// P2.2
func TestEval(t *testing.T) {
	f := gf.New()
	for _, p := range append(few(), mixed()...) {
		for x := range 256 {
			if got, want := poly.Eval(f, p, byte(x)), valueOf(p, byte(x)); got != want {
				t.Fatalf("Eval(%v, %d) = %d, want %d", p, x, got, want)
			}
		}
	}
}

// P2.2: at 0 the value is the number of x's power of 0, which is 1 there too.
func TestEvalAtNought(t *testing.T) {
	f := gf.New()
	for _, p := range mixed() {
		if got := poly.Eval(f, p, 0); got != at(p, 0) {
			t.Errorf("Eval(%v, 0) = %d", p, got)
		}
	}
}

// P2.2
func TestDeriv(t *testing.T) {
	for _, p := range append(few(), mixed()...) {
		var want []byte
		for i := range len(p) {
			a := byte(0)
			if i%2 == 0 {
				a = at(p, i+1)
			}
			want = append(want, a)
		}
		same(t, poly.Deriv(p), want[:length(want)], "Deriv", p)
	}
}

// P2.1, P2.2: derivatives of short polynomials, and those whose top falls away.
func TestDerivOfShort(t *testing.T) {
	for _, c := range []struct{ p, want []byte }{
		{nil, nil},
		{[]byte{0}, nil},
		{[]byte{5}, nil},
		{[]byte{5, 0}, nil},
		{[]byte{5, 6}, []byte{6}},
		{[]byte{5, 0, 7}, nil},
		{[]byte{5, 6, 7}, []byte{6}},
		{[]byte{0, 0, 0, 9}, []byte{0, 0, 9}},
		{[]byte{1, 2, 0, 0, 5, 0}, []byte{2}},
	} {
		same(t, poly.Deriv(c.p), c.want, "Deriv", c.p)
	}
}

// P2.3: the quotient and the rest are told by their own law; a rest of a lesser degree is the only one.
func TestDivide(t *testing.T) {
	f := gf.New()
	pairs(func(p, q []byte) {
		s, r, err := poly.Divide(f, p, q)
		if length(q) == 0 {
			if err != api.ErrPolyZero || len(s) != 0 || len(r) != 0 {
				t.Fatalf("Divide(%v, %v) = %v, %v, %d", p, q, s, r, err)
			}
			return
		}
		if err != api.OK {
			t.Fatalf("Divide(%v, %v): %d", p, q, err)
		}
		if len(r) >= length(q) || len(s) != length(s) || len(r) != length(r) {
			t.Fatalf("Divide(%v, %v) = %v, %v", p, q, s, r)
		}
		same(t, sumOf(productOf(s, q), r), p[:length(p)], "Divide, put together,", p, q)
	})
}

// P2.3: a divisor of a higher degree leaves the whole, up to its top.
func TestDivideByHigherDegree(t *testing.T) {
	s, r, err := poly.Divide(gf.New(), []byte{5, 1, 0, 0, 0}, []byte{0, 0, 3, 0})
	same(t, s, nil, "quotient")
	same(t, r, []byte{5, 1}, "rest")
	if err != api.OK {
		t.Error(err)
	}
}

// P2.3: of the same degree, of degree 0, and nought divided.
func TestDivideAtEdges(t *testing.T) {
	f := gf.New()
	for _, c := range []struct{ p, q, s, r []byte }{
		{[]byte{3, 2}, []byte{0, 1}, []byte{2}, []byte{3}},
		{[]byte{4, 0, 2}, []byte{2}, []byte{2, 0, 1}, nil},
		{[]byte{4, 0, 2}, []byte{1, 0, 0}, []byte{4, 0, 2}, nil},
		{nil, []byte{7}, nil, nil},
		{[]byte{0, 0}, []byte{1, 1}, nil, nil},
		{[]byte{1, 1}, []byte{1, 1, 0}, []byte{1}, nil},
		{[]byte{1, 0, 0, 1}, []byte{0, 0, 1}, []byte{0, 1}, []byte{1}},
	} {
		s, r, err := poly.Divide(f, c.p, c.q)
		same(t, s, c.s, "quotient", c.p, c.q)
		same(t, r, c.r, "rest", c.p, c.q)
		if err != api.OK {
			t.Errorf("Divide(%v, %v): %d", c.p, c.q, err)
		}
	}
}

// P2.4
func TestValuesOfProductsAndSums(t *testing.T) {
	f := gf.New()
	pairs(func(p, q []byte) {
		whole, sum := poly.Mul(f, p, q), poly.Add(p, q)
		for _, x := range []byte{0, 1, 2, 0x8E, 0xFF} {
			a, b := poly.Eval(f, p, x), poly.Eval(f, q, x)
			if got := poly.Eval(f, whole, x); got != product(a, b) {
				t.Fatalf("%v times %v at %d: %d", p, q, x, got)
			}
			if got := poly.Eval(f, sum, x); got != a^b {
				t.Fatalf("%v and %v at %d: %d", p, q, x, got)
			}
		}
	})
}

// P2.4
func TestDerivativeOfProduct(t *testing.T) {
	f := gf.New()
	pairs(func(p, q []byte) {
		want := poly.Add(poly.Mul(f, poly.Deriv(p), q), poly.Mul(f, p, poly.Deriv(q)))
		same(t, poly.Deriv(poly.Mul(f, p, q)), want, "Deriv of a product", p, q)
	})
}

// R1, P2.1, P2.3: without a field a product is nothing, a value 0, and a division refused ahead of all else.
func TestWithoutField(t *testing.T) {
	pairs(func(p, q []byte) {
		same(t, poly.Mul(nil, p, q), nil, "Mul without a field", p, q)
		if got := poly.Eval(nil, p, 1); got != 0 {
			t.Fatalf("Eval(%v) without a field = %d", p, got)
		}
		if s, r, err := poly.Divide(nil, p, q); err != api.ErrArg || len(s) != 0 || len(r) != 0 {
			t.Fatalf("Divide(%v, %v) without a field = %v, %v, %d", p, q, s, r, err)
		}
	})
}

// R1: a field made by hand, which gf answers for as for one that New made.
func TestFieldByHand(t *testing.T) {
	f := &gf.Field{}
	p, q := []byte{9, 0, 255, 3}, []byte{7, 200}
	same(t, poly.Mul(f, p, q), productOf(p, q), "Mul", p, q)
	s, r, err := poly.Divide(f, p, q)
	same(t, sumOf(productOf(s, q), r), p, "Divide, put together,", p, q)
	if err != api.OK {
		t.Error(err)
	}
	if got := poly.Eval(f, p, 77); got != valueOf(p, 77) {
		t.Errorf("Eval = %d", got)
	}
}

// answers are all polynomials that the calls answer of p and q.
func answers(f *gf.Field, p, q []byte) [][]byte {
	s, r, _ := poly.Divide(f, p, q)
	return [][]byte{poly.Norm(p), poly.Add(p, q), poly.Add(q, p), poly.Mul(f, p, q), s, r, poly.Deriv(p)}
}

// roomy is p with spare room behind it that is no nought.
func roomy(p []byte) []byte {
	q := append(slices.Clone(p), 0xA1, 0xA2, 0xA3, 0xA4, 0xA5)
	return q[:len(p)]
}

func copies(lists [][]byte) [][]byte {
	var all [][]byte
	for _, l := range lists {
		all = append(all, slices.Clone(l))
	}
	return all
}

// overwrite fills a list and its spare room.
func overwrite(p []byte, a byte) {
	p = p[:cap(p)]
	for i := range p {
		p[i] = a
	}
}

// R4: what is handed in stays as it was, its spare room too, and is not kept.
func TestArgumentsStay(t *testing.T) {
	f := gf.New()
	pairs(func(p, q []byte) {
		p, q = roomy(p), roomy(q)
		wholeP, wholeQ := slices.Clone(p[:cap(p)]), slices.Clone(q[:cap(q)])
		got := answers(f, p, q)
		poly.Eval(f, p, 3)
		if !bytes.Equal(p[:cap(p)], wholeP) || !bytes.Equal(q[:cap(q)], wholeQ) {
			t.Fatalf("%v and %v became %v and %v", wholeP, wholeQ, p[:cap(p)], q[:cap(q)])
		}
		want := copies(got)
		overwrite(p, 0x55)
		overwrite(q, 0x66)
		for i := range got {
			same(t, got[i], want[i], "an answer behind a change of what was handed in", wholeP, wholeQ)
		}
	})
}

// P2.1, R4: what is answered lies in memory of its own, spare room too.
func TestAnswersStandAlone(t *testing.T) {
	f := gf.New()
	pairs(func(p, q []byte) {
		p, q = roomy(p), roomy(q)
		wholeP, wholeQ := slices.Clone(p[:cap(p)]), slices.Clone(q[:cap(q)])
		got := answers(f, p, q)
		want := copies(got)
		for i := range got {
			overwrite(got[i], 0x77)
			for j := i + 1; j < len(got); j++ {
				same(t, got[j], want[j], "an answer behind a change of another", wholeP, wholeQ)
			}
		}
		same(t, p[:cap(p)], wholeP, "what was handed in, behind a change of answers")
		same(t, q[:cap(q)], wholeQ, "what was handed in, behind a change of answers")
	})
}

// R4: both arguments may be one list, or parts of one.
func TestArgumentsThatShare(t *testing.T) {
	f := gf.New()
	whole := []byte{3, 1, 4, 1, 5, 9, 2, 6}
	p, q := whole[:6], whole[2:5]
	apart := answers(f, slices.Clone(p), slices.Clone(q))
	for i, got := range answers(f, p, q) {
		same(t, got, apart[i], "an answer of lists that share", p, q)
	}
	same(t, whole, []byte{3, 1, 4, 1, 5, 9, 2, 6}, "what was handed in")
	s, r, err := poly.Divide(f, whole, whole)
	same(t, s, []byte{1}, "a quotient of the same")
	same(t, r, nil, "a rest of the same")
	if err != api.OK {
		t.Error(err)
	}
}

// R5: noughts above the top, and spare room, change no answer.
func TestNoughtsAboveTheTopDoNotTell(t *testing.T) {
	f := gf.New()
	pairs(func(p, q []byte) {
		plain := answers(f, p, q)
		longer := answers(f, roomy(append(slices.Clone(p), 0, 0)), roomy(append(slices.Clone(q), 0)))
		for i := range plain {
			same(t, longer[i], plain[i], "an answer with noughts above the top", p, q)
		}
	})
}

// R1: long ones end.
func TestLong(t *testing.T) {
	f := gf.New()
	p := make([]byte, 1<<20)
	for i := range p {
		p[i] = byte(i*i + i>>8)
	}
	q := []byte{3, 0, 1, 0}
	whole := poly.Mul(f, p, q)
	same(t, poly.Mul(f, q, p), whole, "Mul the other way round")
	s, r, err := poly.Divide(f, poly.Add(whole, []byte{8, 9}), q)
	if !bytes.Equal(s, p[:length(p)]) || !bytes.Equal(r, []byte{8, 9}) || err != api.OK {
		t.Errorf("Divide of a long one: rest %v, %d", r, err)
	}
}
