package seal_test

import (
	"bytes"
	"encoding/binary"
	"hash/crc32"
	"math/rand/v2"
	"slices"
	"testing"

	"footlocker/api"
	"footlocker/seal"
	"footlocker/stripe"
)

// maxVolume is how many bytes volumes have at most.
const maxVolume = 1 << 24

// source tells the same numbers in each run.
func source() *rand.Rand { return rand.New(rand.NewPCG(47, 48)) }

// within tells whether a number is one of those from low to high.
func within(n, low, high int) bool { return low <= n && n <= high }

// rightGeometry tells whether a geometry is right, by layer 23's words.
func rightGeometry(g stripe.Geometry) bool {
	return within(g.N, 1, 255) && within(g.K, 0, 255) && g.N+g.K <= 255 && within(g.Size, 5, maxVolume) && within(g.Block, 1, maxVolume)
}

// blocks is how many blocks a column of a right geometry has: a last one that isn't whole, too.
func blocks(g stripe.Geometry) int {
	n := (g.Size + 8) / g.Block
	if n*g.Block < g.Size+8 {
		n++
	}
	return n
}

// right tells whether a seal is right, by the chapter's words.
func right(s seal.Seal) bool {
	if !rightGeometry(s.G) || !within(s.Index, 0, s.G.K-1) || len(s.Sums) != s.G.N+s.G.K {
		return false
	}
	for _, row := range s.Sums {
		if len(row) != blocks(s.G) {
			return false
		}
	}
	return true
}

// written is the bytes of a right seal and a column, by the chapter's words.
func written(s seal.Seal, col []byte) []byte {
	le := binary.LittleEndian
	b := []byte("FLRV\x01\x00")
	for _, n := range []int{s.G.N, s.G.K, s.Index} {
		b = le.AppendUint16(b, uint16(n))
	}
	b = le.AppendUint32(b, uint32(s.G.Size))
	b = le.AppendUint32(b, uint32(s.G.Block))
	for _, row := range s.Sums {
		for _, sum := range row {
			b = le.AppendUint32(b, sum)
		}
	}
	b = le.AppendUint32(b, crc32.ChecksumIEEE(b))
	return append(b, col...)
}

// parsed is the seal and the column of bytes, by the chapter's words.
func parsed(b []byte) (seal.Seal, []byte, api.Errno) {
	var none seal.Seal
	if len(b) < 4 || string(b[:4]) != "FLRV" {
		return none, nil, api.ErrSign
	}
	if len(b) < 20 {
		return none, nil, api.ErrShort
	}
	le := binary.LittleEndian
	var s seal.Seal
	s.G = stripe.Geometry{N: int(le.Uint16(b[6:])), K: int(le.Uint16(b[8:])), Size: int(le.Uint32(b[12:])), Block: int(le.Uint32(b[16:]))}
	s.Index = int(le.Uint16(b[10:]))
	if le.Uint16(b[4:]) != 1 || !rightGeometry(s.G) || s.Index >= s.G.K {
		return none, nil, api.ErrForm
	}
	sums := 20 + 4*(s.G.N+s.G.K)*blocks(s.G)
	if len(b) < sums+4 {
		return none, nil, api.ErrShort
	}
	if le.Uint32(b[sums:]) != crc32.ChecksumIEEE(b[:sums]) {
		return none, nil, api.ErrSum
	}
	if len(b) < sums+4+s.G.Size+8 {
		return none, nil, api.ErrShort
	}
	if len(b) > sums+4+s.G.Size+8 {
		return none, nil, api.ErrMore
	}
	for at := 20; at < sums; {
		var row []uint32
		for range blocks(s.G) {
			row = append(row, le.Uint32(b[at:]))
			at += 4
		}
		s.Sums = append(s.Sums, row)
	}
	return s, b[sums+4:], api.OK
}

// same tells whether seals are the same.
func same(a, b seal.Seal) bool {
	return a.G == b.G && a.Index == b.Index && slices.EqualFunc(a.Sums, b.Sums, slices.Equal[[]uint32])
}

// told checks that Parse answers what the chapter's words tell of bytes, and that what is parsed is written as these. It tells which error it was.
func told(t *testing.T, b []byte) api.Errno {
	t.Helper()
	want, wantCol, e := parsed(b)
	s, col, f := seal.Parse(b)
	if !same(s, want) || !bytes.Equal(col, wantCol) || f != e || e != api.OK && (s.Sums != nil || col != nil) {
		t.Fatalf("%x: %+v, %x, %d, not %+v, %x, %d", b, s, col, f, want, wantCol, e)
	}
	if e != api.OK {
		return e
	}
	if again, e := seal.Write(s, col); !bytes.Equal(again, b) || e != api.OK {
		t.Fatalf("%x is written as %x, %d", b, again, e)
	}
	return api.OK
}

// likewise checks that a right seal and a column are written as the chapter's words tell, and parsed as these. It answers the bytes.
func likewise(t *testing.T, s seal.Seal, col []byte) []byte {
	t.Helper()
	b, e := seal.Write(s, col)
	if !bytes.Equal(b, written(s, col)) || e != api.OK {
		t.Fatalf("%+v, %x: %x, %d", s, col, b, e)
	}
	if len(b) != seal.Head(s.G)+len(col) {
		t.Fatalf("%+v: %d bytes, and a head of %d", s.G, len(b), seal.Head(s.G))
	}
	if got, back, e := seal.Parse(b); !same(got, s) || !bytes.Equal(back, col) || e != api.OK {
		t.Fatalf("%+v, %x, %d, not %+v, %x", got, back, e, s, col)
	}
	return b
}

// made is a seal of a right geometry, with whatever sums, and whatever column.
func made(r *rand.Rand, g stripe.Geometry, index int) (seal.Seal, []byte) {
	s := seal.Seal{G: g, Index: index, Sums: make([][]uint32, g.N+g.K)}
	for i := range s.Sums {
		s.Sums[i] = make([]uint32, blocks(g))
		for j := range s.Sums[i] {
			s.Sums[i][j] = r.Uint32()
		}
	}
	return s, whatever(r, g.Size+8)
}

// whatever is n bytes.
func whatever(r *rand.Rand, n int) []byte {
	b := make([]byte, n)
	for i := range b {
		b[i] = byte(r.Uint32())
	}
	return b
}

// some are right geometries, each with a volume of recovery: small ones, and such whose numbers take all their bytes.
var some = []stripe.Geometry{
	{N: 1, K: 1, Size: 5, Block: 13},
	{N: 1, K: 1, Size: 5, Block: 7},
	{N: 2, K: 3, Size: 9, Block: 1},
	{N: 3, K: 2, Size: 8, Block: 8},
	{N: 200, K: 55, Size: 300, Block: 70000},
	{N: 1, K: 254, Size: 5, Block: maxVolume},
	{N: 254, K: 1, Size: 6, Block: 6},
	{N: 1, K: 2, Size: 70000, Block: 1000},
}
