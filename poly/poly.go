// Package poly is layer 2: see shared/doc/02-poly.md.
package poly

import (
	"slices"

	"footlocker/api"
	"footlocker/gf"
)

// Degree is the greatest power that isn't 0.
func Degree(p []byte) int {
	degree := len(p) - 1
	for degree >= 0 && p[degree] == 0 {
		degree--
	}
	return degree
}

// Trim is a polynomial without noughts at its end.
func Trim(p []byte) []byte { return slices.Clone(p[:Degree(p)+1]) }

// Add is a sum.
func Add(p, q []byte) []byte {
	if len(p) < len(q) {
		p, q = q, p
	}
	sum := slices.Clone(p)
	for i, v := range q {
		sum[i] = gf.Add(sum[i], v)
	}
	return sum[:Degree(sum)+1]
}

// Mul is a product.
func Mul(p, q []byte) []byte {
	p, q = p[:Degree(p)+1], q[:Degree(q)+1]
	if len(p) == 0 || len(q) == 0 {
		return nil
	}
	product := make([]byte, len(p)+len(q)-1)
	for i, v := range p {
		addTimes(product[i:], q, v)
	}
	return product
}

// addTimes adds a polynomial, times a byte, to one that is at least as long.
func addTimes(to, p []byte, by byte) {
	for i, v := range p {
		to[i] = gf.Add(to[i], gf.Mul(v, by))
	}
}

// Eval is what it is at a place.
func Eval(p []byte, x byte) byte {
	value := byte(0)
	for i := len(p) - 1; i >= 0; i-- {
		value = gf.Add(gf.Mul(value, x), p[i])
	}
	return value
}

// DivMod is a quotient and a rest.
func DivMod(p, q []byte) (quotient, rest []byte, ok bool) {
	q = q[:Degree(q)+1]
	if len(q) == 0 {
		return nil, nil, false
	}
	rest = Trim(p)
	if len(rest) < len(q) {
		return nil, rest, true
	}
	top := len(q) - 1
	inverse := gf.Inv(q[top])
	quotient = make([]byte, len(rest)-top)
	for i := len(quotient) - 1; i >= 0; i-- {
		quotient[i] = gf.Mul(rest[i+top], inverse)
		addTimes(rest[i:], q, quotient[i])
	}
	return quotient, rest[:Degree(rest)+1], true
}

// Through is the polynomial through values.
func Through(xs, ys []byte) ([]byte, api.Errno) {
	if len(xs) != len(ys) {
		return nil, api.ErrArg
	}
	if standTwice(xs) {
		return nil, api.ErrTwice
	}
	var through []byte
	nought := []byte{1} // 0 at all places that were gone through: times whatever byte, it leaves the values there as they are
	for i, x := range xs {
		lacks := gf.Add(Eval(through, x), ys[i])
		step, _ := gf.Div(lacks, Eval(nought, x))
		through = Add(through, gf.Scale(nought, step))
		nought = Mul(nought, []byte{x, 1})
	}
	return through, api.OK
}

// standTwice tells whether one of the bytes is there twice.
func standTwice(xs []byte) bool {
	var seen [256]bool
	for _, x := range xs {
		if seen[x] {
			return true
		}
		seen[x] = true
	}
	return false
}
