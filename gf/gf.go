// Package gf is layer 1: the field of 256 numbers: see shared/doc/01-gf.md.
package gf

import (
	"aumbry/api"
)

// order is how many powers of 2 there are: each number but 0 is one of them.
const order = 255

// remainder is what x^8 leaves behind a division by x^8 + x^4 + x^3 + x^2 + 1.
const remainder = 0x1D

// Field is the field of 256 numbers.
type Field struct {
	powers [order]byte     // at the place n: 2's power of n
	places [order + 1]byte // at the place a: the n for which a is 2's power of n; of 0 it means nothing
}

// New is it.
func New() *Field {
	f := &Field{}
	power := byte(1)
	put := func(n int) {
		f.powers[n] = power
		f.places[power] = byte(n)
		power = double(power)
	}
	for n := range order {
		put(n)
	}
	return f
}

// double is a's product with 2.
func double(a byte) byte {
	if a < 128 {
		return a << 1
	}
	return a<<1 ^ remainder
}

// filled stands in for a field that New did not make: its arrays are empty, and a call may not write into it, as others may be reading it.
func (f *Field) filled() *Field {
	if f.powers[0] == 1 {
		return f
	}
	return New()
}

// Mul is a product.
func (f *Field) Mul(a, b byte) byte {
	if f == nil || a == 0 || b == 0 {
		return 0
	}
	f = f.filled()
	return f.powers[(int(f.places[a])+int(f.places[b]))%order]
}

// Inv is an inverse.
func (f *Field) Inv(a byte) (byte, api.Errno) {
	return f.Pow(a, -1)
}

// Div is a quotient.
func (f *Field) Div(a, b byte) (byte, api.Errno) {
	inverse, err := f.Inv(b)
	if err != api.OK {
		return 0, err
	}
	return f.Mul(a, inverse), api.OK
}

// Pow is a power.
func (f *Field) Pow(a byte, n int) (byte, api.Errno) {
	switch {
	case f == nil:
		return 0, api.ErrArg
	case n == 0:
		return 1, api.OK
	case a == 0 && n < 0:
		return 0, api.ErrGfZero
	case a == 0:
		return 0, api.OK
	}
	f = f.filled()
	return f.powers[int(f.places[a])*turns(n)%order], api.OK
}

// turns is n less multiples of order, from 0 to order - 1: a power of order is 1, and a product of the whole n might not fit an int.
func turns(n int) int {
	return (n%order + order) % order
}

// Log is which power of 2 a number is.
func (f *Field) Log(a byte) (int, api.Errno) {
	if f == nil {
		return 0, api.ErrArg
	}
	if a == 0 {
		return 0, api.ErrGfZero
	}
	return int(f.filled().places[a]), api.OK
}
