package keyeq_test

import (
	"bytes"
	"slices"
	"testing"

	"aumbry/api"
	"aumbry/bulk"
	"aumbry/gf"
	"aumbry/keyeq"
	"aumbry/syndrome"
)

// product multiplies two numbers bit by bit, without package gf.
func product(a, b byte) byte {
	var r byte
	for range 8 {
		if b&1 == 1 {
			r ^= a
		}
		high := a&0x80 != 0
		a <<= 1
		if high {
			a ^= 0x1D
		}
		b >>= 1
	}
	return r
}

// products are told once, for the tests of many syndromes.
var products = func() (all [256][256]byte) {
	for a := range 256 {
		for b := range 256 {
			all[a][b] = product(byte(a), byte(b))
		}
	}
	return all
}()

// inverses are sought by trying all numbers; that of 0 stays 0.
var inverses = func() (all [256]byte) {
	for a := range 256 {
		for b := range 256 {
			if products[a][b] == 1 {
				all[a] = byte(b)
			}
		}
	}
	return all
}()

// mixed are bytes that hang on the seed and their places alone.
func mixed(seed, length int) []byte {
	b := make([]byte, length)
	x := uint32(seed)*2654435761 + 12345
	for i := range b {
		x ^= x << 13
		x ^= x >> 17
		x ^= x << 5
		b[i] = byte(x >> 11)
	}
	return b
}

// upToTop is a polynomial without noughts at its end.
func upToTop(p []byte) []byte {
	return bytes.TrimRight(p, "\x00")
}

// multiplied is a product, number by number, without package poly; noughts at its end stay.
func multiplied(p, q []byte) []byte {
	all := make([]byte, len(p)+len(q))
	for i, a := range p {
		for j, b := range q {
			all[i+j] ^= products[a][b]
		}
	}
	return all
}

// valueOf is a polynomial's value at a number.
func valueOf(p []byte, x byte) byte {
	var value byte
	power := byte(1)
	for _, a := range p {
		value ^= products[a][power]
		power = products[power][x]
	}
	return value
}

// turned is the turned one of syndromes.
func turned(s []byte) []byte {
	p := bytes.Clone(s)
	slices.Reverse(p)
	return p
}

// of is a polynomial's number at a place, 0 beyond it.
func of(p []byte, place int) byte {
	if place < 0 || place >= len(p) {
		return 0
	}
	return p[place]
}

// isLocator asks the chapter's own words: a top that is 1, and noughts at the places e + t to m - 1 of the product with known and the turned one.
func isLocator(l, known, s []byte) bool {
	if len(l) == 0 || l[len(l)-1] != 1 {
		return false
	}
	t, e := len(l)-1, len(upToTop(known))-1
	all := multiplied(multiplied(l, known), turned(s))
	for place := e + t; place < len(s); place++ {
		if of(all, place) != 0 {
			return false
		}
	}
	return true
}

// evaluatorOf are the numbers from the place m on.
func evaluatorOf(l, known, s []byte) []byte {
	all := multiplied(multiplied(l, known), turned(s))
	return upToTop(all[min(len(s), len(all)):])
}

// unknowns solves equations, rows with what they should sum up to at their end: the numbers, whether there are any, and whether there are no others.
func unknowns(rows [][]byte, many int) (numbers []byte, some, alone bool) {
	numbers, alone = make([]byte, many), true
	done := 0
	var columns []int
	for c := range many {
		found := slices.IndexFunc(rows[done:], func(row []byte) bool { return row[c] != 0 })
		if found < 0 {
			alone = false
			continue
		}
		rows[done], rows[done+found] = rows[done+found], rows[done]
		clearColumn(rows, done, c)
		columns = append(columns, c)
		done++
	}
	for _, row := range rows[done:] {
		if row[many] != 0 {
			return nil, false, false
		}
	}
	for r, c := range columns {
		numbers[c] = rows[r][many]
	}
	return numbers, true, alone
}

// clearColumn makes the row's own number in a column 1, and all others' 0.
func clearColumn(rows [][]byte, own, c int) {
	inverse := inverses[rows[own][c]]
	for i, b := range rows[own] {
		rows[own][i] = products[b][inverse]
	}
	for r, row := range rows {
		if factor := row[c]; r != own && factor != 0 {
			for i, b := range rows[own] {
				row[i] ^= products[b][factor]
			}
		}
	}
}

// ofDegree is a locator of the degree t, by equations for its numbers at the places below t: one for each place e + t to m - 1.
func ofDegree(s, known []byte, t int) (l []byte, some, alone bool) {
	e := len(upToTop(known)) - 1
	told := multiplied(known, turned(s))
	var rows [][]byte
	for place := e + t; place < len(s); place++ {
		row := make([]byte, t+1)
		for i := range row {
			row[i] = of(told, place-i)
		}
		rows = append(rows, row)
	}
	l, some, alone = unknowns(rows, t)
	return append(l, 1), some, alone
}

// solved is what P9.2 asks, by trying the degrees one by one, of a known that may be.
func solved(t *testing.T, s, known []byte) (l, o []byte, err api.Errno) {
	t.Helper()
	e := len(upToTop(known)) - 1
	for degree := 0; 2*degree+e <= len(s); degree++ {
		l, some, alone := ofDegree(s, known, degree)
		if !some {
			continue
		}
		if !alone || !isLocator(l, known, s) {
			t.Fatalf("the test's own locator of %v and %v is %v, alone: %v", s, known, l, alone)
		}
		return l, evaluatorOf(l, known, s), api.OK
	}
	return nil, nil, api.ErrMany
}

// told are bytes, for a message: how many, if they are many.
func told(b []byte) any {
	if len(b) > 40 {
		return len(b)
	}
	return b
}

// same wants an answer without an error.
func same(t *testing.T, f *gf.Field, s, known, l, o []byte) {
	t.Helper()
	gotL, gotO, err := keyeq.Solve(f, s, known)
	if err != api.OK || !bytes.Equal(gotL, l) || !bytes.Equal(gotO, o) {
		t.Fatalf("Solve(%v, %v) = %v, %v, %d, want %v, %v", told(s), told(known), told(gotL), told(gotO), err, told(l), told(o))
	}
}

// refused wants an error, and nothing beside it.
func refused(t *testing.T, f *gf.Field, s, known []byte, want api.Errno) {
	t.Helper()
	l, o, err := keyeq.Solve(f, s, known)
	if err != want || len(l) != 0 || len(o) != 0 {
		t.Fatalf("Solve(%v, %v) = %v, %v, %d, want error %d", told(s), told(known), told(l), told(o), err, want)
	}
}

// asked wants what the test's own equations tell.
func asked(t *testing.T, f *gf.Field, s, known []byte) api.Errno {
	t.Helper()
	l, o, err := solved(t, s, known)
	if err != api.OK {
		refused(t, f, s, known, err)
	} else {
		same(t, f, s, known, l, o)
	}
	return err
}

// locatorOf is a product of x + a, made one by one.
func locatorOf(points []byte) []byte {
	l := []byte{1}
	for _, a := range points {
		l = upToTop(multiplied(l, []byte{a, 1}))
	}
	return l
}

// sameLocator wants a Locator.
func sameLocator(t *testing.T, f *gf.Field, points, want []byte) {
	t.Helper()
	if got := keyeq.Locator(f, points); !bytes.Equal(got, want) {
		t.Fatalf("Locator(%v) = %v, want %v", told(points), told(got), told(want))
	}
}

// topped is a polynomial of mixed numbers, of just this degree.
func topped(seed, degree int) []byte {
	p := mixed(seed, degree+1)
	if p[degree] == 0 {
		p[degree] = 1
	}
	return p
}

// goingOn are m numbers of which each, from the place t on, is made of the t ahead of it, by a polynomial of the degree t with the top 1: a locator of theirs.
func goingOn(seed, t, m int) (s, l []byte) {
	l = append(mixed(seed, t), 1)
	s = mixed(seed+1, min(t, m))
	for len(s) < m {
		var next byte
		for i := range t {
			next ^= products[l[i]][s[len(s)-t+i]]
		}
		s = append(s, next)
	}
	return s, l
}

// all are all lists of a length, of some numbers.
func all(numbers []byte, length int, do func(list []byte)) {
	list := make([]byte, length)
	var at func(place int)
	at = func(place int) {
		if place == length {
			do(bytes.Clone(list))
			return
		}
		for _, b := range numbers {
			list[place] = b
			at(place + 1)
		}
	}
	at(0)
}

// The chapter's examples.
func TestExamples(t *testing.T) {
	f := gf.New()
	sameLocator(t, f, nil, []byte{1})
	sameLocator(t, f, []byte{0}, []byte{0, 1})
	sameLocator(t, f, []byte{1, 2}, []byte{2, 3, 1})
	same(t, f, []byte{0, 0}, []byte{1}, []byte{1}, nil)
	same(t, f, []byte{5, 5}, []byte{1}, []byte{1, 1}, []byte{5})
	refused(t, f, []byte{0, 5}, []byte{1}, api.ErrMany)
}

// P9.1: locators worked out by hand.
func TestLocatorByHand(t *testing.T) {
	f := gf.New()
	sameLocator(t, f, []byte{}, []byte{1})
	sameLocator(t, f, []byte{0, 0}, []byte{0, 0, 1})
	sameLocator(t, f, []byte{3, 3}, []byte{5, 0, 1})
	sameLocator(t, f, []byte{0, 2, 0}, []byte{0, 0, 2, 1})
	sameLocator(t, f, []byte{1, 2, 4}, []byte{8, 14, 7, 1})
	sameLocator(t, f, []byte{255}, []byte{255, 1})
}

// P9.2: answers worked out by hand.
func TestSolveByHand(t *testing.T) {
	f := gf.New()
	for _, c := range []struct{ s, known, l, o []byte }{
		{nil, []byte{1}, []byte{1}, nil},
		{nil, []byte{9}, []byte{1}, nil},
		{[]byte{0}, []byte{1}, []byte{1}, nil},
		{[]byte{9}, []byte{3, 1}, []byte{1}, []byte{9}},
		{[]byte{9}, []byte{0, 1}, []byte{1}, []byte{9}},
		{[]byte{1}, []byte{0, 7}, []byte{1}, []byte{7}},
		{[]byte{7, 0}, []byte{1}, []byte{0, 1}, []byte{7}},
		{[]byte{1, 2}, []byte{1}, []byte{2, 1}, []byte{1}},
		{[]byte{5, 10}, []byte{2, 1}, []byte{1}, []byte{5}},             // the one wrong byte is known
		{[]byte{5, 5}, []byte{2, 1}, nil, nil},                          // it is another one, and there are not three syndromes
		{[]byte{5, 5, 5}, []byte{2, 1}, []byte{1, 1}, []byte{10, 5}},    // 5 times x + 2
		{[]byte{0, 3, 5, 9}, []byte{1}, []byte{2, 3, 1}, []byte{3}},     // 1 and the powers of 2: the points 1 and 2
		{[]byte{2, 1, 7, 11}, []byte{1}, []byte{2, 3, 1}, []byte{7, 2}}, // 3 and the powers of 2
		{[]byte{0, 1, 0, 0}, []byte{1}, []byte{0, 0, 1}, []byte{1}},     // a point that stands there twice
		{[]byte{1, 0, 1, 0}, []byte{1}, []byte{1, 0, 1}, []byte{0, 1}},  // it is 1
		{[]byte{1, 1, 0, 1}, []byte{1}, []byte{1, 1, 1}, []byte{0, 1}},  // the points 214 and 215
		{[]byte{0, 0, 1, 0}, []byte{1}, nil, nil},                       // x's power of 3 would do
		{[]byte{3, 0, 0, 0}, []byte{1}, []byte{0, 1}, []byte{3}},        // the point 0 alone
		{[]byte{0, 0, 0, 0}, []byte{5, 4, 3, 2, 1}, []byte{1}, nil},     // nothing is wrong
		{[]byte{1, 2}, []byte{5, 4, 3}, []byte{1}, []byte{4 ^ 6, 3}},    // (2 1) times (5 4 3) from 2 on
		{[]byte{1, 2}, []byte{5, 4, 3, 0}, []byte{1}, []byte{4 ^ 6, 3}}, // the same with a nought behind
	} {
		if c.l == nil {
			refused(t, f, c.s, c.known, api.ErrMany)
		} else {
			same(t, f, c.s, c.known, c.l, c.o)
		}
	}
}

// The section Errors.
func TestNumbers(t *testing.T) {
	f := gf.New()
	if _, _, err := keyeq.Solve(nil, []byte{5, 5}, []byte{1}); err != 1 {
		t.Errorf("Solve without a field: %d", err)
	}
	if _, _, err := keyeq.Solve(f, []byte{5, 5}, nil); err != 1 {
		t.Errorf("Solve without a known: %d", err)
	}
	if _, _, err := keyeq.Solve(f, []byte{5, 5}, []byte{0, 0, 0, 1}); err != 1 {
		t.Errorf("Solve with a known of a degree that is too great: %d", err)
	}
	if _, _, err := keyeq.Solve(f, []byte{0, 5}, []byte{1}); err != 100 {
		t.Errorf("Solve of too many: %d", err)
	}
}

// P9.1: all points, and all pairs: x + a times x + b is x's square, a + b times x, and a times b.
func TestLocatorOfTwo(t *testing.T) {
	f := gf.New()
	for a := range 256 {
		sameLocator(t, f, []byte{byte(a)}, []byte{byte(a), 1})
		for b := range 256 {
			sameLocator(t, f, []byte{byte(a), byte(b)}, []byte{product(byte(a), byte(b)), byte(a ^ b), 1})
		}
	}
}

// P9.1: any points, many of them more than once, held against products made one by one.
func TestLocator(t *testing.T) {
	f := gf.New()
	for length := range 60 {
		for seed := range 4 {
			points := mixed(length*10+seed, length)
			sameLocator(t, f, points, locatorOf(points))
			for i := range points {
				points[i] %= 5
			}
			sameLocator(t, f, points, locatorOf(points))
		}
	}
	for _, length := range []int{255, 256, 257, 600} {
		points := mixed(length, length)
		sameLocator(t, f, points, locatorOf(points))
		sameLocator(t, f, make([]byte, length), append(make([]byte, length), 1))
	}
}

// P9.1: a locator has its points as roots, and no others, and does not hang on their order.
func TestRoots(t *testing.T) {
	f := gf.New()
	for length := range 40 {
		points := mixed(length+70, length)
		l := keyeq.Locator(f, points)
		if len(l) != length+1 || l[length] != 1 {
			t.Fatalf("Locator(%v) = %v", points, l)
		}
		for x := range 256 {
			if (valueOf(l, byte(x)) == 0) != bytes.Contains(points, []byte{byte(x)}) {
				t.Fatalf("Locator(%v) = %v, at %d", points, l, x)
			}
		}
		slices.Reverse(points)
		sameLocator(t, f, points, l)
		slices.Sort(points)
		sameLocator(t, f, points, l)
	}
}

// P9.1: the locator of all 256 points is x's power of 256 and x.
func TestLocatorOfAll(t *testing.T) {
	f := gf.New()
	var points []byte
	for a := range 256 {
		points = append(points, byte(a))
	}
	want := make([]byte, 257)
	want[1], want[256] = 1, 1
	sameLocator(t, f, points, want)
}

// R1, P9.1: without a field there is no locator, of no points either.
func TestLocatorWithoutField(t *testing.T) {
	for _, points := range [][]byte{nil, {}, {0}, {1}, {1, 2}, mixed(1, 300)} {
		if l := keyeq.Locator(nil, points); len(l) != 0 {
			t.Fatalf("Locator(%v) without a field = %v", points, l)
		}
	}
}

// P9.2: no syndromes: known must be a number, and nothing is wrong.
func TestNoSyndromes(t *testing.T) {
	f := gf.New()
	for _, s := range [][]byte{nil, {}} {
		for a := 1; a < 256; a++ {
			same(t, f, s, []byte{byte(a)}, []byte{1}, nil)
			same(t, f, s, []byte{byte(a), 0, 0}, []byte{1}, nil)
		}
		refused(t, f, s, []byte{0, 1}, api.ErrArg)
		refused(t, f, s, []byte{3, 2, 1}, api.ErrArg)
		refused(t, f, s, []byte{0}, api.ErrArg)
		refused(t, f, s, nil, api.ErrArg)
	}
}

// P9.2: syndromes that are all 0 tell that nothing is wrong, whatever is known.
func TestAllNoughts(t *testing.T) {
	f := gf.New()
	for _, m := range []int{1, 2, 3, 4, 7, 8, 100, 255, 256, 1 << 16} {
		for e := range min(m, 9) + 1 {
			same(t, f, make([]byte, m), topped(m+e, e), []byte{1}, nil)
		}
		same(t, f, make([]byte, m), topped(m, min(m, 300)), []byte{1}, nil)
	}
}

// P9.2: one syndrome: it must be 0, or a byte must be known.
func TestOneSyndrome(t *testing.T) {
	f := gf.New()
	for a := range 256 {
		s := []byte{byte(a)}
		for b := range 256 {
			same(t, f, s, []byte{byte(b), 1}, []byte{1}, upToTop(s))
			if b > 0 {
				same(t, f, s, []byte{77, byte(b)}, []byte{1}, upToTop([]byte{product(byte(a), byte(b))}))
			}
			switch {
			case b > 0 && a > 0:
				refused(t, f, s, []byte{byte(b)}, api.ErrMany)
			case b > 0:
				same(t, f, s, []byte{byte(b)}, []byte{1}, nil)
			}
		}
	}
}

// P9.2: all two syndromes: the second one is the first one times a point, or there are too many.
func TestTwoSyndromes(t *testing.T) {
	f := gf.New()
	for a := range 256 {
		for b := range 256 {
			s := []byte{byte(a), byte(b)}
			switch {
			case a > 0:
				same(t, f, s, []byte{1}, []byte{product(byte(b), inverses[a]), 1}, []byte{byte(a)})
			case b > 0:
				refused(t, f, s, []byte{1}, api.ErrMany)
			default:
				same(t, f, s, []byte{1}, []byte{1}, nil)
			}
			// With a known point of 3 the second one is to be the first one times 3.
			if byte(b) == product(byte(a), 3) {
				same(t, f, s, []byte{3, 1}, []byte{1}, upToTop([]byte{byte(a)}))
			} else {
				refused(t, f, s, []byte{3, 1}, api.ErrMany)
			}
		}
	}
}

// P9.2: syndromes of noughts and ones alone, all of them, with known of all degrees: many have noughts at their ends and steps over several degrees at once.
func TestFewNumbers(t *testing.T) {
	f := gf.New()
	ones := []byte{0, 1}
	for m := range 10 {
		all(ones, m, func(s []byte) {
			for e := range m + 1 {
				asked(t, f, s, append(make([]byte, e), 1))
				asked(t, f, s, bytes.Repeat([]byte{1}, e+1))
				asked(t, f, s, topped(m*100+e, e))
			}
		})
	}
	for m := range 6 {
		all([]byte{0, 1, 2, 142}, m, func(s []byte) {
			for e := range m + 1 {
				asked(t, f, s, topped(m*50+e, e))
			}
		})
	}
}

// P9.2: any syndromes, and any known of a degree up to m: locators and ErrMany both come.
func TestAnySyndromes(t *testing.T) {
	f := gf.New()
	for m := range 25 {
		fits, many := 0, 0
		for e := range m + 1 {
			for seed := range 12 {
				s, known := mixed(m*1000+e*20+seed, m), topped(seed*700+e, e)
				if asked(t, f, s, known) == api.OK {
					fits++
				} else {
					many++
				}
				asked(t, f, s, append(known, 0, 0, 0))
			}
		}
		if fits == 0 || (m > 0 && many == 0) {
			t.Fatalf("%d syndromes: %d fit, %d are too many", m, fits, many)
		}
	}
}

// P9.2: syndromes that go on by a polynomial, which need not have roots: it is told, if its degree is small enough, or one of a lesser degree that divides it.
func TestGoingOn(t *testing.T) {
	f := gf.New()
	for m := range 21 {
		for degree := range m + 1 {
			for seed := range 6 {
				s, l := goingOn(m*300+degree*10+seed, degree, m)
				if 2*degree <= m && !isLocator(l, []byte{1}, s) {
					t.Fatalf("%v is no locator of %v", l, s)
				}
				if err := asked(t, f, s, []byte{1}); err != api.OK && 2*degree <= m {
					t.Fatalf("Solve(%v): %d, and %v is a locator", s, err, l)
				}
			}
		}
	}
}

// P9.2: noughts at the ends of syndromes, and between them.
func TestNoughtsAtEnds(t *testing.T) {
	f := gf.New()
	for m := 1; m <= 16; m++ {
		for ahead := range m {
			for behind := range m - ahead {
				s := make([]byte, m)
				copy(s[ahead:m-behind], topped(m, m-ahead-behind))
				s[ahead], s[m-1-behind] = 9, 7
				for _, e := range []int{0, 1, 2, m - 1, m} {
					if e >= 0 && e <= m {
						asked(t, f, s, topped(e+m, e))
						asked(t, f, s, append(make([]byte, e), 4))
					}
				}
			}
		}
		// Alone at the place i it takes x's power of i + 1, as there are i behind the top and no more.
		for i := range m {
			s := make([]byte, m)
			s[i] = 6
			if 2*(i+1) <= m {
				same(t, f, s, []byte{1}, append(make([]byte, i+1), 1), []byte{6})
			} else {
				refused(t, f, s, []byte{1}, api.ErrMany)
			}
		}
	}
}

// P9.2: by the chapter's words alone, all polynomials tried: none of a lesser degree does, none beside it of its degree, and where ErrMany is told none at all.
func TestAllPolynomials(t *testing.T) {
	f := gf.New()
	var bytesOf []byte
	for a := range 256 {
		bytesOf = append(bytesOf, byte(a))
	}
	for _, c := range []struct{ m, e, cases int }{
		{1, 0, 20}, {1, 1, 20}, {2, 0, 60}, {2, 1, 60}, {2, 2, 20}, {3, 0, 60}, {3, 1, 60}, {3, 2, 20}, {3, 3, 20}, {4, 2, 60}, {5, 3, 60}, {4, 0, 3}, {5, 0, 3}, {5, 1, 3}, {6, 2, 3},
	} {
		for seed := range c.cases {
			s, known := mixed(c.m*100+seed, c.m), topped(seed+c.e*77, c.e)
			if seed%3 == 1 {
				s, _ = goingOn(seed, (c.m-c.e)/2, c.m)
				known = []byte{byte(seed + 1)}
			}
			e := len(known) - 1
			l, o, err := keyeq.Solve(f, s, known)
			var least [][]byte
			for degree := 0; 2*degree+e <= c.m && degree <= 2 && least == nil; degree++ {
				all(bytesOf, degree, func(list []byte) {
					if p := append(list, 1); isLocator(p, known, s) {
						least = append(least, p)
					}
				})
			}
			switch {
			case len(least) > 1:
				t.Fatalf("%v and %v have %d locators", s, known, len(least))
			case len(least) == 1 && (err != api.OK || !bytes.Equal(l, least[0]) || !bytes.Equal(o, evaluatorOf(l, known, s))):
				t.Fatalf("Solve(%v, %v) = %v, %v, %d, want %v", s, known, l, o, err, least[0])
			case len(least) == 0 && (err != api.ErrMany || len(l) != 0 || len(o) != 0):
				t.Fatalf("Solve(%v, %v) = %v, %v, %d, want error %d", s, known, l, o, err, api.ErrMany)
			}
		}
	}
}

// P9.2: known may have any top: the locator stays, and the evaluator is that many times as great.
func TestKnownTimesNumber(t *testing.T) {
	f := gf.New()
	for _, m := range []int{2, 5, 8} {
		for e := range m + 1 {
			s := syndromesOf(m, topped(e, e)[:e], mixed(e+9, 300), mixed(m, (m-e)/2))
			known := keyeq.Locator(f, topped(e, e)[:e])
			l, o, err := keyeq.Solve(f, s, known)
			if err != api.OK {
				t.Fatalf("Solve(%v, %v): %d", s, known, err)
			}
			for a := 1; a < 256; a++ {
				times := upToTop(multiplied(known, []byte{byte(a)}))
				same(t, f, s, times, l, upToTop(multiplied(o, []byte{byte(a)})))
			}
		}
	}
}

// P9.2: noughts behind the top of known tell nothing, and do not count for its degree.
func TestNoughtsBehindKnown(t *testing.T) {
	f := gf.New()
	for m := range 9 {
		for e := range m + 1 {
			for seed := range 5 {
				s, known := mixed(m*40+seed, m), topped(seed+e, e)
				for _, more := range []int{1, 2, m, 300} {
					asked(t, f, s, append(bytes.Clone(known), make([]byte, more)...))
				}
			}
		}
	}
}

// P9.2: known of a degree of just m: the locator is 1, whatever syndromes are; of more than m: ErrArg.
func TestDegreeOfKnown(t *testing.T) {
	f := gf.New()
	for _, m := range []int{0, 1, 2, 3, 10, 100, 255, 256} {
		s := mixed(m, m)
		known := topped(m+1, m)
		same(t, f, s, known, []byte{1}, evaluatorOf([]byte{1}, known, s))
		same(t, f, s, append(known, 0), []byte{1}, evaluatorOf([]byte{1}, known, s))
		for _, more := range []int{1, 2, 3, m, 1000} {
			if more > 0 {
				refused(t, f, s, topped(more, m+more), api.ErrArg)
				refused(t, f, make([]byte, m), append(make([]byte, m+more), 1), api.ErrArg)
				refused(t, f, s, append(topped(more, m+more), 0, 0), api.ErrArg)
			}
		}
	}
}

// P9.2: known without a top.
func TestKnownWithoutTop(t *testing.T) {
	f := gf.New()
	for _, m := range []int{0, 1, 2, 7} {
		for _, s := range [][]byte{make([]byte, m), mixed(m, m)} {
			refused(t, f, s, nil, api.ErrArg)
			refused(t, f, s, []byte{}, api.ErrArg)
			for _, length := range []int{1, 2, m + 1, m + 2, 500} {
				refused(t, f, s, make([]byte, length), api.ErrArg)
			}
		}
	}
}

// syndromesOf are m sums of values times their points' powers, of two lists of points, the values in their order.
func syndromesOf(m int, some, values, others []byte) []byte {
	s := make([]byte, m)
	for i, point := range slices.Concat(some, others) {
		number := values[i]
		for l := range s {
			s[l] ^= number
			number = products[number][point]
		}
	}
	return s
}

// apart are many points that differ.
func apart(seed, many int) []byte {
	start, points := mixed(seed, 2), make([]byte, many)
	for i := range points {
		// A step of an odd number comes to all points ahead of coming to one again.
		points[i] = start[0] + byte(i)*(start[1]|1)
	}
	return points
}

// withoutNoughts are values of bytes that are others.
func withoutNoughts(seed, many int) []byte {
	values := mixed(seed, many)
	for i, b := range values {
		if b == 0 {
			values[i] = 1
		}
	}
	return values
}

// P9.2, P9.3: 2·t + e of just m, of less, and of one more: at most m tells the points, and one more never does.
func TestJustSoMany(t *testing.T) {
	f := gf.New()
	for m := range 17 {
		for e := range m + 1 {
			for wrong := 0; 2*wrong+e <= m+1; wrong++ {
				for seed := range 4 {
					points := apart(m*200+e*30+wrong*5+seed, e+wrong)
					known, others := points[:e], points[e:]
					s := syndromesOf(m, known, withoutNoughts(seed+m, e+wrong), others)
					l, _, err := keyeq.Solve(f, s, keyeq.Locator(f, known))
					told := err == api.OK && bytes.Equal(l, locatorOf(others))
					if told != (2*wrong+e <= m) {
						t.Fatalf("Solve of %d wrong and %d known at %v = %v, %d", wrong, e, points, l, err)
					}
					asked(t, f, s, keyeq.Locator(f, known))
				}
			}
		}
	}
}

// P9.2, P9.3: one more than the half, where nothing is known: two wrong bytes with three syndromes are ErrMany, as no one byte tells them.
func TestOneMore(t *testing.T) {
	f := gf.New()
	for m := 1; m <= 15; m += 2 {
		for seed := range 40 {
			wrong := (m + 1) / 2
			points := apart(m*50+seed, wrong)
			s := syndromesOf(m, nil, withoutNoughts(seed, wrong), points)
			refused(t, f, s, []byte{1}, api.ErrMany)
		}
	}
}

// wordOfCode is a word that bulk makes of a byte of each data shard.
func wordOfCode(t *testing.T, f *gf.Field, k, m, seed int) []byte {
	t.Helper()
	shards := make([][]byte, k)
	for j, b := range mixed(seed, k) {
		shards[j] = []byte{b}
	}
	whole, err := bulk.Encode(f, k, m, shards)
	if err != api.OK {
		t.Fatalf("Encode(%d, %d): %d", k, m, err)
	}
	return bytes.Join(whole, nil)
}

// places are many of a code's, that differ.
func places(seed, many, shards int) []byte {
	var chosen []byte
	for _, point := range apart(seed, 256) {
		if int(point) < shards && len(chosen) < many {
			chosen = append(chosen, point)
		}
	}
	return chosen
}

// pointsAreTold changes bytes of a word of the code, wrong ones and known ones, and wants the wrong ones' points.
func pointsAreTold(t *testing.T, f *gf.Field, k, m, e, wrong, seed int) {
	t.Helper()
	word := wordOfCode(t, f, k, m, seed)
	points := places(seed, e+wrong, k+m)
	differences := withoutNoughts(seed+3, e+wrong)
	if e > 0 && seed%2 == 0 {
		// A byte that is known to be missing may still be what it was.
		differences[0] = 0
	}
	for i, point := range points {
		word[point] ^= differences[i]
	}
	s, err := syndrome.Of(f, k, m, word)
	if err != api.OK {
		t.Fatalf("Of(%d, %d): %d", k, m, err)
	}
	known := keyeq.Locator(f, points[:e])
	want := locatorOf(points[e:])
	same(t, f, s, known, want, evaluatorOf(want, known, s))
}

// P9.3: words of all small codes.
func TestWordsOfSmallCodes(t *testing.T) {
	f := gf.New()
	for k := 1; k <= 6; k++ {
		for m := range 9 {
			for e := range m + 1 {
				for wrong := 0; 2*wrong+e <= m && wrong+e <= k+m; wrong++ {
					for seed := range 4 {
						pointsAreTold(t, f, k, m, e, wrong, k*100+m*10+seed)
					}
				}
			}
		}
	}
}

// P9.3: words of as many bytes as may be, with as many wrong and known ones as may be.
func TestWordsOfGreatCodes(t *testing.T) {
	f := gf.New()
	for _, code := range [][2]int{{256, 0}, {255, 1}, {254, 2}, {200, 56}, {129, 127}, {128, 128}, {56, 200}, {2, 254}, {1, 255}, {40, 30}} {
		k, m := code[0], code[1]
		for _, e := range []int{0, 1, m / 2, m - 1, m} {
			if e >= 0 && e <= m {
				pointsAreTold(t, f, k, m, e, (m-e)/2, k+e)
				pointsAreTold(t, f, k, m, e, (m-e)/4, k+e+1)
			}
		}
	}
}

// P9.3: any one byte wrong of a word, to any other byte, the point 0 and the greatest one too.
func TestOneByte(t *testing.T) {
	f := gf.New()
	for _, code := range [][2]int{{1, 2}, {3, 2}, {2, 3}, {3, 4}} {
		k, m := code[0], code[1]
		word := wordOfCode(t, f, k, m, k+m)
		for i := range word {
			for difference := 1; difference < 256; difference++ {
				word[i] ^= byte(difference)
				s, _ := syndrome.Of(f, k, m, word)
				same(t, f, s, []byte{1}, []byte{byte(i), 1}, s[:1])
				word[i] ^= byte(difference)
			}
		}
	}
	word := wordOfCode(t, f, 254, 2, 5)
	for i := range word {
		word[i] ^= byte(i) | 1
		s, _ := syndrome.Of(f, 254, 2, word)
		same(t, f, s, []byte{1}, []byte{byte(i), 1}, s[:1])
		word[i] ^= byte(i) | 1
	}
}

// P9.2: more syndromes than a code has.
func TestManySyndromes(t *testing.T) {
	f := gf.New()
	s, l := goingOn(4, 9, 2000)
	same(t, f, s, []byte{1}, l, evaluatorOf(l, []byte{1}, s))
	s[1999]++
	refused(t, f, s, []byte{1}, api.ErrMany)
	s, _ = goingOn(5, 150, 300)
	asked(t, f, s, []byte{1})
	asked(t, f, mixed(6, 301), []byte{1})
	asked(t, f, mixed(7, 300), topped(8, 101))
}

// R1, P9.2: no field is told ahead of all else.
func TestNoField(t *testing.T) {
	for _, s := range [][]byte{nil, {}, {0}, {5}, {0, 0}, {5, 5}, {0, 5}, mixed(1, 300)} {
		for _, known := range [][]byte{nil, {}, {0}, {1}, {7}, {3, 1}, {3, 1, 0}, {1, 2, 3}, mixed(2, 400)} {
			refused(t, nil, s, known, api.ErrArg)
		}
	}
}

// R2: each error ahead of those behind it, where they all apply.
func TestOrderOfErrors(t *testing.T) {
	f := gf.New()
	refused(t, nil, []byte{0, 5}, []byte{0}, api.ErrArg)
	refused(t, nil, []byte{0, 5}, []byte{1, 1, 1, 1}, api.ErrArg)
	refused(t, nil, []byte{0, 5}, []byte{1}, api.ErrArg)
	refused(t, f, []byte{0, 5}, []byte{0, 0, 0, 0}, api.ErrArg)
	refused(t, f, []byte{0, 5}, []byte{1, 1, 1, 1}, api.ErrArg)
	refused(t, f, []byte{0, 5}, []byte{1}, api.ErrMany)
}

// R1: a field made by hand is one.
func TestFieldByHand(t *testing.T) {
	f := &gf.Field{}
	sameLocator(t, f, []byte{1, 2, 4}, []byte{8, 14, 7, 1})
	for m := range 6 {
		for e := range m + 1 {
			asked(t, f, mixed(m, m), topped(e, e))
		}
		s, _ := goingOn(m, m/2, m)
		asked(t, f, s, []byte{1})
	}
	if *f != (gf.Field{}) {
		t.Fatal("the field has been changed")
	}
}

// roomy is a copy of a list with spare room; all of it is told by whole.
func roomy(list []byte) (short, whole []byte) {
	whole = append(bytes.Clone(list), 0xA5, 0x5A, 0xC3)
	return whole[:len(list)], whole
}

// spoil writes over all that a list holds, spare room too.
func spoil(list []byte, with byte) {
	room := list[:cap(list)]
	for i := range room {
		room[i] = with
	}
}

// cases are syndromes and known that tell all kinds of answers.
var cases = []struct{ s, known []byte }{
	{nil, []byte{1}}, {[]byte{0, 0}, []byte{1}}, {[]byte{5, 5}, []byte{1}}, {[]byte{0, 5}, []byte{1}}, {[]byte{9}, []byte{3, 1}},
	{[]byte{5, 5, 5}, []byte{2, 1, 0}}, {[]byte{2, 3, 5, 9}, []byte{1}}, {[]byte{2, 3, 5, 9}, []byte{4, 3, 2, 1, 7}},
	{[]byte{2, 3, 5, 9}, []byte{4, 3, 2, 1, 7, 1}}, {[]byte{1, 2}, []byte{0, 0}}, {[]byte{1, 1, 0, 1}, []byte{1}},
}

// R3, R4: what is handed in is left as it was, by answers and by errors.
func TestArgumentsStay(t *testing.T) {
	f := gf.New()
	field := *f
	for _, c := range cases {
		s, wholeS := roomy(c.s)
		known, wholeKnown := roomy(c.known)
		beforeS, beforeKnown := bytes.Clone(wholeS), bytes.Clone(wholeKnown)
		keyeq.Solve(f, s, known)
		keyeq.Solve(nil, s, known)
		keyeq.Solve(f, known, s)
		keyeq.Locator(f, s)
		keyeq.Locator(f, known)
		keyeq.Locator(nil, known)
		if !bytes.Equal(wholeS, beforeS) || !bytes.Equal(wholeKnown, beforeKnown) || *f != field {
			t.Fatalf("what was given has changed: %v and %v", c.s, c.known)
		}
	}
}

// R4: answers lie in memory of their own, spare room too: neither arguments nor other answers change with them.
func TestAnswersApart(t *testing.T) {
	f := gf.New()
	for _, c := range cases {
		s, wholeS := roomy(c.s)
		known, wholeKnown := roomy(c.known)
		beforeS, beforeKnown := bytes.Clone(wholeS), bytes.Clone(wholeKnown)
		l, o, err := keyeq.Solve(f, s, known)
		wantL, wantO := bytes.Clone(l), bytes.Clone(o)
		moreL, moreO, _ := keyeq.Solve(f, s, known)
		spoil(moreL, 0x11)
		spoil(moreO, 0x22)
		if !bytes.Equal(l, wantL) || !bytes.Equal(o, wantO) {
			t.Fatalf("two answers of %v and %v share memory", c.s, c.known)
		}
		spoil(o, 0x33)
		if !bytes.Equal(l, wantL) {
			t.Fatalf("the locator and the evaluator of %v and %v share memory", c.s, c.known)
		}
		_, o, _ = keyeq.Solve(f, s, known)
		spoil(l, 0x44)
		if !bytes.Equal(o, wantO) || !bytes.Equal(wholeS, beforeS) || !bytes.Equal(wholeKnown, beforeKnown) {
			t.Fatalf("the answers of %v and %v share memory with something", c.s, c.known)
		}
		againL, againO, again := keyeq.Solve(f, s, known)
		if !bytes.Equal(againL, wantL) || !bytes.Equal(againO, wantO) || again != err {
			t.Fatalf("Solve(%v, %v) was %v, %v, %d and is %v, %v, %d", c.s, c.known, wantL, wantO, err, againL, againO, again)
		}
	}
}

// R4: the same of one answer's two lists, both ways round, and of locators.
func TestListsApart(t *testing.T) {
	f := gf.New()
	for m := 1; m <= 12; m++ {
		s, _ := goingOn(m, m/2, m)
		l, o, _ := keyeq.Solve(f, s, []byte{1})
		wantO := bytes.Clone(o)
		spoil(l, 0x55)
		if !bytes.Equal(o, wantO) {
			t.Fatalf("the evaluator of %v shares memory with the locator", s)
		}
		points, whole := roomy(mixed(m, m-1))
		before := bytes.Clone(whole)
		spoil(keyeq.Locator(f, points), 0x66)
		spoil(keyeq.Locator(f, nil), 0x66)
		if !bytes.Equal(whole, before) {
			t.Fatalf("Locator(%v) shares memory with it", before)
		}
		sameLocator(t, f, points, locatorOf(points))
		sameLocator(t, f, nil, []byte{1})
	}
}

// R4: nothing is kept: an answer stays as it was when what was given changes, and a later call answers by its own.
func TestNothingIsKept(t *testing.T) {
	f := gf.New()
	given, _ := goingOn(3, 2, 6)
	wantL, wantO, _ := solved(t, given, []byte{3, 1})
	s, known := bytes.Clone(given), []byte{3, 1}
	l, o, err := keyeq.Solve(f, s, known)
	points := []byte{1, 2}
	locator := keyeq.Locator(f, points)
	spoil(s, 0x77)
	spoil(known, 0x78)
	spoil(points, 0x79)
	if err != api.OK || !bytes.Equal(l, wantL) || !bytes.Equal(o, wantO) || !bytes.Equal(locator, []byte{2, 3, 1}) {
		t.Fatalf("answers have changed with what was given: %v, %v, %d, %v", l, o, err, locator)
	}
	asked(t, f, s, known)
	sameLocator(t, f, points, locatorOf(points))
}

// R5: neither spare room, nor other fields, nor calls that went before tell.
func TestSameAgain(t *testing.T) {
	f := gf.New()
	for range 3 {
		for _, c := range cases {
			s, _ := roomy(c.s)
			known, _ := roomy(c.known)
			e := len(upToTop(known)) - 1
			for _, field := range []*gf.Field{f, gf.New()} {
				if e < 0 || e > len(s) {
					refused(t, field, s, known, api.ErrArg)
				} else {
					asked(t, field, s, known)
				}
				sameLocator(t, field, s, locatorOf(s))
			}
		}
	}
}
