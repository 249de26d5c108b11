// Package gf is layer 1: see shared/doc/01-gf.md.
package gf

// modulus is the field's polynomial without its x^8.
const modulus = 0x1D

// powers is how many powers x has, before they come again.
const powers = 255

// Add is a sum.
func Add(a, b byte) byte { return a ^ b }

// Mul is a product. It has no branches on the bytes: which bits are set can't be foreseen, and most calls of the layers above end here.
func Mul(a, b byte) byte {
	product := byte(0)
	for range 8 {
		product ^= a & -(b & 1)
		a, b = timesX(a), b>>1
	}
	return product
}

// timesX is a byte times x.
func timesX(a byte) byte { return a<<1 ^ modulus&-(a>>7) }

// Inv is what a byte times it is 1.
func Inv(a byte) byte { return Pow(a, -1) }

// Div is a quotient.
func Div(a, b byte) (byte, bool) {
	if b == 0 {
		return 0, false
	}
	return Mul(a, Inv(b)), true
}

// Pow is a byte to the n-th.
func Pow(a byte, n int) byte {
	if a == 0 && n != 0 {
		return 0 // 0 alone has no cycle of powers, by which n could be made small
	}
	small := cycle(n)
	power := byte(1)
	for bit := range 8 {
		if small>>bit&1 == 1 {
			power = Mul(power, a)
		}
		a = Mul(a, a)
	}
	return power
}

// cycle is the n from 0 to 254 to which all bytes but 0 have the same power.
func cycle(n int) int { return (n%powers + powers) % powers }

// Exp is x to the n-th.
func Exp(n int) byte { return Pow(2, n) }

// Log is which power of x a byte is.
func Log(a byte) int {
	power := byte(1)
	for n := range powers {
		if power == a {
			return n
		}
		power = timesX(power)
	}
	return -1
}

// Dot is the sum of products.
func Dot(a, b []byte) byte {
	sum := byte(0)
	for i := range min(len(a), len(b)) {
		sum = Add(sum, Mul(a[i], b[i]))
	}
	return sum
}

// Scale is each byte times one. Whole rows are scaled again and again by the layers above, so what four bits come to is told ahead of the bytes.
func Scale(a []byte, by byte) []byte {
	low, by := fourBits(by)
	high, _ := fourBits(by)
	scaled := make([]byte, len(a))
	for i, v := range a {
		scaled[i] = low[v&15] ^ high[v>>4]
	}
	return scaled
}

// fourBits is a byte times each that has no more than its lowest four bits, and the byte times what the next bit stands for.
func fourBits(by byte) (products [16]byte, next byte) {
	for bit := range 4 {
		for i := range 1 << bit {
			products[1<<bit+i] = Add(products[i], by)
		}
		by = timesX(by)
	}
	return products, by
}
