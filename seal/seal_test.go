package seal_test

import (
	"bytes"
	"encoding/binary"
	"hash/crc32"
	"math"
	"math/bits"
	"runtime"
	"slices"
	"testing"

	"footlocker/api"
	"footlocker/seal"
	"footlocker/stripe"
)

func TestTheExample(t *testing.T) { // P24.1
	if n := seal.Head(stripe.Geometry{N: 1, K: 1, Size: 5, Block: 13}); n != 32 {
		t.Errorf("%d", n)
	}
}

func TestHead(t *testing.T) { // P24.1
	for _, n := range []int{math.MinInt, -1, 0, 1, 2, 100, 254, 255, 256, math.MaxInt} {
		for _, k := range []int{math.MinInt, -1, 0, 1, 2, 100, 155, 254, 255, math.MaxInt} {
			for _, size := range []int{math.MinInt, -8, 0, 4, 5, 6, 100, maxVolume, maxVolume + 1, math.MaxInt} {
				for _, block := range []int{math.MinInt, -1, 0, 1, 2, 13, 14, 108, maxVolume, maxVolume + 1, math.MaxInt} {
					g := stripe.Geometry{N: n, K: k, Size: size, Block: block}
					want := 0
					if rightGeometry(g) {
						want = 20 + 4*(n+k)*blocks(g) + 4
					}
					if got := seal.Head(g); got != want {
						t.Fatalf("%+v: %d, not %d", g, got, want)
					}
				}
			}
		}
	}
	for _, c := range []struct {
		g    stripe.Geometry
		want int
	}{
		{stripe.Geometry{N: 1, K: 1, Size: 5, Block: 12}, 40},
		{stripe.Geometry{N: 1, K: 0, Size: 5, Block: 13}, 28}, // right, though there is no such volume
		{stripe.Geometry{N: 2, K: 1, Size: 5, Block: 1}, 180},
		{stripe.Geometry{N: 200, K: 55, Size: maxVolume, Block: 1}, 17112768504},
		{stripe.Geometry{N: 200, K: 56, Size: 5, Block: 1}, 0},
	} {
		if n := seal.Head(c.g); n != c.want {
			t.Errorf("%+v: %d, not %d", c.g, n, c.want)
		}
	}
}

func TestBytesOfSeals(t *testing.T) { // P24.1
	s := seal.Seal{G: stripe.Geometry{N: 2, K: 1, Size: 0x0506, Block: 0x040302}, Index: 0, Sums: [][]uint32{{0x01020304}, {0xA1A2A3A4}, {7}}}
	col := bytes.Repeat([]byte("c"), 0x0506+8)
	head := "FLRV\x01\x00\x02\x00\x01\x00\x00\x00\x06\x05\x00\x00\x02\x03\x04\x00\x04\x03\x02\x01\xA4\xA3\xA2\xA1\x07\x00\x00\x00"
	b := likewise(t, s, col)
	sum := binary.LittleEndian.AppendUint32(nil, crc32.ChecksumIEEE([]byte(head)))
	if string(b) != head+string(sum)+string(col) {
		t.Errorf("%x", b[:36])
	}
}

func TestAllSeals(t *testing.T) { // P24.1, P24.2
	r := source()
	for _, g := range some {
		for index := range g.K {
			s, col := made(r, g, index)
			likewise(t, s, col)
		}
	}
	for range 2000 {
		g := stripe.Geometry{N: 1 + r.IntN(9), Size: 5 + r.IntN(60), Block: 1 + r.IntN(80)}
		g.K = 1 + r.IntN(9)
		s, col := made(r, g, r.IntN(g.K))
		likewise(t, s, col)
	}
}

func TestGreatSeals(t *testing.T) { // P24.1, P24.2
	r := source()
	for _, g := range []stripe.Geometry{{N: 1, K: 1, Size: maxVolume, Block: maxVolume}, {N: 2, K: 2, Size: 1 << 20, Block: 3}} {
		s, col := made(r, g, g.K-1)
		b, e := seal.Write(s, col)
		if !bytes.Equal(b, written(s, col)) || e != api.OK {
			t.Errorf("%+v: %d bytes, %d", g, len(b), e)
		}
		if got, back, e := seal.Parse(b); !same(got, s) || !bytes.Equal(back, col) || e != api.OK {
			t.Errorf("%+v: %+v, %d bytes, %d", g, got.G, len(back), e)
		}
	}
}

func TestOnlySums(t *testing.T) { // P24.1: the column isn't held against its sums, which are whatever they are
	g := stripe.Geometry{N: 1, K: 1, Size: 5, Block: 4}
	for _, sum := range []uint32{0, 1, 1 << 31, math.MaxUint32} {
		row := []uint32{sum, sum, sum, sum}
		likewise(t, seal.Seal{G: g, Sums: [][]uint32{row, row}}, make([]byte, 13))
	}
}

// wrong are seals that aren't right, and columns that aren't as long as they should be.
func wrong(s seal.Seal, col []byte) []struct {
	s   seal.Seal
	col []byte
} {
	type pair = struct {
		s   seal.Seal
		col []byte
	}
	var all []pair
	add := func(turn func(s *seal.Seal)) {
		other := s
		other.Sums = slices.Clone(s.Sums)
		turn(&other)
		all = append(all, pair{other, col})
	}
	for _, index := range []int{math.MinInt, -1, s.G.K, s.G.K + 1, 65536, 65536 + s.Index, math.MaxInt} {
		add(func(s *seal.Seal) { s.Index = index })
	}
	for _, n := range []int{math.MinInt, -1, 0, s.G.N - 1, s.G.N + 1, 256, 65536 + s.G.N, math.MaxInt} {
		add(func(s *seal.Seal) { s.G.N = n })
	}
	for _, k := range []int{math.MinInt, -1, 0, s.G.K - 1, s.G.K + 1, 256, 65536 + s.G.K, math.MaxInt} {
		add(func(s *seal.Seal) { s.G.K = k })
	}
	for _, size := range []int{math.MinInt, -1, 0, 4, s.G.Size - 1, s.G.Size + 1, maxVolume + 1, 1<<32 + s.G.Size, math.MaxInt} {
		add(func(s *seal.Seal) { s.G.Size = size })
	}
	for _, block := range []int{math.MinInt, -1, 0, 1, maxVolume + 1, 1<<32 + s.G.Block, math.MaxInt} {
		add(func(s *seal.Seal) { s.G.Block = block })
	}
	add(func(s *seal.Seal) { s.Sums = nil })
	add(func(s *seal.Seal) { s.Sums = s.Sums[1:] })
	add(func(s *seal.Seal) { s.Sums = append(s.Sums, s.Sums[0]) })
	for _, i := range []int{0, len(s.Sums) - 1} {
		add(func(s *seal.Seal) { s.Sums[i] = nil })
		add(func(s *seal.Seal) { s.Sums[i] = s.Sums[i][1:] })
		add(func(s *seal.Seal) { s.Sums[i] = append(slices.Clone(s.Sums[i]), 0) })
	}
	for _, n := range []int{0, 1, len(col) - 8, len(col) - 1, len(col) + 1} {
		all = append(all, pair{s, append(slices.Clone(col), 0)[:n]})
	}
	all = append(all, pair{s, nil}, pair{seal.Seal{}, nil}, pair{seal.Seal{}, col}, pair{seal.Seal{}, make([]byte, 8)})
	return all
}

func TestWrongSeals(t *testing.T) { // P24.1, P1
	r := source()
	for _, g := range []stripe.Geometry{{N: 2, K: 2, Size: 9, Block: 5}, {N: 1, K: 1, Size: 5, Block: 7}, {N: 2, K: 253, Size: 8, Block: 8}} {
		s, col := made(r, g, g.K-1)
		likewise(t, s, col)
		for i, c := range wrong(s, col) {
			if right(c.s) && len(c.col) == c.s.G.Size+8 {
				t.Fatalf("%+v, case %d: it's right", g, i)
			}
			if b, e := seal.Write(c.s, c.col); b != nil || e != api.ErrArg {
				t.Errorf("%+v, case %d: %d bytes, %d", g, i, len(b), e)
			}
		}
	}
}

func TestSumsMovedFromRowToRow(t *testing.T) { // P24.1: as many sums as there must be in all don't do
	g := stripe.Geometry{N: 1, K: 1, Size: 5, Block: 7}
	for _, sums := range [][][]uint32{{{1, 2, 3}, {4}}, {{1}, {2, 3, 4}}, {{1, 2, 3, 4}, nil}, {{1}, {2}, {3}, {4}}, {{1, 2, 3, 4}}} {
		if b, e := seal.Write(seal.Seal{G: g, Sums: sums}, make([]byte, 13)); b != nil || e != api.ErrArg {
			t.Errorf("%v: %d bytes, %d", sums, len(b), e)
		}
	}
}

func TestEachLength(t *testing.T) { // P24.1: errors by how many bytes there are
	r := source()
	for _, g := range some[:4] {
		s, col := made(r, g, g.K-1)
		b := append(written(s, col), 0, 0)
		whole, head := len(b)-2, seal.Head(g)
		for n := range len(b) + 1 {
			want := api.ErrShort
			switch {
			case n < 4:
				want = api.ErrSign
			case n == whole:
				want = api.OK
			case n > whole:
				want = api.ErrMore
			}
			if e := told(t, b[:n:n]); e != want {
				t.Fatalf("%+v: %d of %d bytes, with a head of %d: %d", g, n, whole, head, e)
			}
			if e := told(t, b[:n]); e != want { // what stands behind the bytes isn't looked at
				t.Fatalf("%+v: %d of %d bytes, with others behind them: %d", g, n, whole, e)
			}
		}
	}
	told(t, nil)
	told(t, []byte{})
}

func TestEachByteTurned(t *testing.T) { // P24.1, P24.2
	r := source()
	met := map[api.Errno]int{}
	for _, g := range some[:4] {
		s, col := made(r, g, 0)
		b := written(s, col)
		for at := range b {
			was := b[at]
			for v := range 256 {
				b[at] = byte(v)
				e := told(t, b)
				if at >= seal.Head(g) && e != api.OK || at >= 20 && at < seal.Head(g) && byte(v) != was && e != api.ErrSum {
					t.Fatalf("%+v: byte %d from %d to %d: %d", g, at, was, v, e)
				}
				met[e]++
			}
			b[at] = was
		}
	}
	for _, e := range []api.Errno{api.OK, api.ErrSign, api.ErrForm, api.ErrShort, api.ErrSum} {
		if met[e] == 0 {
			t.Errorf("%d wasn't met", e)
		}
	}
}

// closed is bytes whose head's sum is that of what stands ahead of it, for a head of so many bytes.
func closed(b []byte, head int) []byte {
	b = slices.Clone(b)
	binary.LittleEndian.PutUint32(b[head-4:], crc32.ChecksumIEEE(b[:head-4]))
	return b
}

func TestEachNumber(t *testing.T) { // P24.1: with a sum that agrees, whatever stands ahead of it
	r := source()
	met := map[api.Errno]int{}
	for _, g := range some[:4] {
		s, col := made(r, g, 0)
		b := written(s, col)
		for _, f := range []struct{ at, size int }{{4, 2}, {6, 2}, {8, 2}, {10, 2}, {12, 4}, {16, 4}} {
			for _, n := range []uint32{0, 1, 2, 3, 4, 5, 6, 7, 8, 12, 13, 14, 253, 254, 255, 256, 257, 65535, maxVolume - 1, maxVolume, maxVolume + 1, 1<<31 - 1, 1 << 31, math.MaxUint32} {
				c := slices.Clone(b)
				copy(c[f.at:f.at+f.size], binary.LittleEndian.AppendUint32(nil, n))
				met[told(t, c)]++
				met[told(t, closed(c, seal.Head(g)))]++
				x := stripe.Geometry{N: int(c[6]), K: int(c[8]), Size: int(binary.LittleEndian.Uint32(c[12:])), Block: int(binary.LittleEndian.Uint32(c[16:]))}
				if head := seal.Head(x); 24 < head && head <= len(c) {
					met[told(t, closed(c, head))]++
				}
			}
		}
	}
	for _, e := range []api.Errno{api.OK, api.ErrForm, api.ErrShort, api.ErrSum, api.ErrMore} {
		if met[e] == 0 {
			t.Errorf("%d wasn't met", e)
		}
	}
}

func TestParseErrors(t *testing.T) { // P24.1, P1: the first that applies, though others do
	front := func(sign string, version, n, k, index, size, block int) []byte {
		le := binary.LittleEndian
		b := []byte(sign)
		for _, x := range []int{version, n, k, index} {
			b = le.AppendUint16(b, uint16(x))
		}
		return le.AppendUint32(le.AppendUint32(b, uint32(size)), uint32(block))
	}
	noughts := func(b []byte, n int) []byte { return append(b, make([]byte, n)...) }
	for i, c := range []struct {
		b    []byte
		want api.Errno
	}{
		{[]byte("FLR"), api.ErrSign},
		{[]byte("FLRv"), api.ErrSign},
		{[]byte("FLRV"), api.ErrShort},
		{front("FLRW", 2, 0, 0, 0, 0, 0), api.ErrSign},
		{front("VRLF", 1, 1, 1, 0, 5, 13), api.ErrSign},
		{front("FLRV", 2, 0, 0, 0, 0, 0)[:19], api.ErrShort},
		{front("FLRV", 2, 1, 1, 0, 5, 13), api.ErrForm},
		{front("FLRV", 0, 1, 1, 0, 5, 13), api.ErrForm},
		{front("FLRV", 257, 1, 1, 0, 5, 13), api.ErrForm},
		{front("FLRV", 1, 0, 1, 0, 5, 13), api.ErrForm},
		{front("FLRV", 1, 1, 0, 0, 5, 13), api.ErrForm}, // the geometry is right, but there is no such volume
		{front("FLRV", 1, 1, 1, 1, 5, 13), api.ErrForm},
		{front("FLRV", 1, 1, 1, 65535, 5, 13), api.ErrForm},
		{front("FLRV", 1, 1, 255, 0, 5, 13), api.ErrForm},
		{front("FLRV", 1, 255, 1, 0, 5, 13), api.ErrForm},
		{front("FLRV", 1, 255, 0, 0, 5, 13), api.ErrForm},
		{front("FLRV", 1, 65535, 2, 0, 5, 13), api.ErrForm},
		{front("FLRV", 1, 1, 65535, 0, 5, 13), api.ErrForm},
		{front("FLRV", 1, 1, 1, 0, 4, 13), api.ErrForm},
		{front("FLRV", 1, 1, 1, 0, maxVolume+1, 13), api.ErrForm},
		{front("FLRV", 1, 1, 1, 0, -1, 13), api.ErrForm},
		{front("FLRV", 1, 1, 1, 0, 5, 0), api.ErrForm},
		{front("FLRV", 1, 1, 1, 0, 5, maxVolume+1), api.ErrForm},
		{front("FLRV", 1, 1, 1, 0, 5, -1), api.ErrForm},
		{noughts(front("FLRV", 2, 1, 1, 0, 5, 13), 25), api.ErrForm}, // nor does its sum agree
		{noughts(front("FLRV", 1, 1, 1, 0, 5, 13), 0), api.ErrShort},
		{noughts(front("FLRV", 1, 1, 1, 0, 5, 13), 11), api.ErrShort},
		{noughts(front("FLRV", 1, 1, 1, 0, 5, 13), 12), api.ErrSum}, // nor is there a column
		{noughts(front("FLRV", 1, 1, 1, 0, 5, 13), 25), api.ErrSum},
		{noughts(front("FLRV", 1, 1, 1, 0, 5, 13), 26), api.ErrSum}, // and a byte more
		{closed(noughts(front("FLRV", 1, 1, 1, 0, 5, 13), 12), 32), api.ErrShort},
		{closed(noughts(front("FLRV", 1, 1, 1, 0, 5, 13), 24), 32), api.ErrShort},
		{closed(noughts(front("FLRV", 1, 1, 1, 0, 5, 13), 25), 32), api.OK},
		{closed(noughts(front("FLRV", 1, 1, 1, 0, 5, 13), 26), 32), api.ErrMore},
		{closed(noughts(front("FLRV", 1, 1, 254, 253, 5, maxVolume), 1037), 1044), api.OK},
		{closed(noughts(front("FLRV", 1, 254, 1, 0, 5, maxVolume), 1037), 1044), api.OK},
		{closed(noughts(front("FLRV", 1, 1, 254, 254, 5, maxVolume), 1037), 1044), api.ErrForm},
	} {
		if e := told(t, c.b); e != c.want {
			t.Errorf("case %d: %d, not %d", i, e, c.want)
		}
	}
}

func TestTurnedWithin32Bits(t *testing.T) { // P24.2
	r := source()
	for _, g := range some[:4] {
		s, col := made(r, g, g.K-1)
		b := written(s, col)
		first, behind := 20*8, seal.Head(g)*8
		for from := first; from < behind; from++ {
			for range 40 {
				burst := r.Uint32() | 1
				if from+bits.Len32(burst) > behind {
					burst = 1
				}
				c := slices.Clone(b)
				for i := range 32 {
					c[(from+i)/8%len(c)] ^= byte(burst>>i&1) << ((from + i) % 8)
				}
				if x, y, e := seal.Parse(c); e != api.ErrSum || x.Sums != nil || x.G != (stripe.Geometry{}) || y != nil {
					t.Fatalf("%+v: turned by %x from bit %d on: %d", g, burst, from, e)
				}
			}
		}
	}
}

func TestOneBitTurned(t *testing.T) { // P24.2
	s, col := made(source(), stripe.Geometry{N: 5, K: 6, Size: 100, Block: 9}, 3)
	b := written(s, col)
	for at := 20; at < seal.Head(s.G); at++ {
		for bit := range 8 {
			b[at] ^= 1 << bit
			if _, _, e := seal.Parse(b); e != api.ErrSum {
				t.Fatalf("bit %d of byte %d: %d", bit, at, e)
			}
			b[at] ^= 1 << bit
		}
	}
}

func TestWhateverBytes(t *testing.T) { // P24.1
	r := source()
	met := map[api.Errno]int{}
	for range 30000 {
		b := make([]byte, r.IntN(120))
		for i := range b {
			b[i] = byte(r.Uint32())
			if r.IntN(2) == 0 {
				b[i] %= 16
			}
		}
		copy(b, []byte("FLRV\x01\x00\x01\x00\x01\x00\x00\x00\x05\x00\x00\x00")[:r.IntN(17)])
		met[told(t, b)]++
	}
	for _, e := range []api.Errno{api.ErrSign, api.ErrShort, api.ErrForm} {
		if met[e] == 0 {
			t.Errorf("%d wasn't met", e)
		}
	}
}

func TestGreatHeadsTakeNoMemory(t *testing.T) { // P24.1, P1: what a front of few bytes tells of isn't made
	b := []byte("FLRV\x01\x00\xC8\x00\x37\x00\x00\x00\x00\x00\x00\x01\x01\x00\x00\x00 and a few more bytes")
	var before, behind runtime.MemStats
	runtime.ReadMemStats(&before)
	e := told(t, b)
	runtime.ReadMemStats(&behind)
	if e != api.ErrShort || behind.TotalAlloc-before.TotalAlloc > 1<<20 {
		t.Errorf("%d, and %d bytes", e, behind.TotalAlloc-before.TotalAlloc)
	}
}

func TestSums(t *testing.T) { // P24.1: of however many columns, however long
	r := source()
	for block := 1; block < 30; block++ {
		g := stripe.Geometry{N: 2, K: 1, Size: 9, Block: block}
		for count := range 6 {
			var cols [][]byte
			for range count {
				cols = append(cols, whatever(r, r.IntN(50)))
			}
			sums := seal.Sums(cols, g)
			if len(sums) != count {
				t.Fatalf("%d columns: %v", count, sums)
			}
			for i, col := range cols {
				var want []uint32
				for piece := range slices.Chunk(col, block) {
					want = append(want, crc32.ChecksumIEEE(piece))
				}
				if !slices.Equal(sums[i], want) {
					t.Fatalf("%x by %d: %x, not %x", col, block, sums[i], want)
				}
			}
		}
	}
}

func TestSumsOfWrongGeometries(t *testing.T) { // P24.1
	cols := [][]byte{make([]byte, 13), make([]byte, 13)}
	for _, g := range []stripe.Geometry{
		{}, {N: 0, K: 2, Size: 5, Block: 4}, {N: 1, K: -1, Size: 5, Block: 4}, {N: 254, K: 2, Size: 5, Block: 4}, {N: 256, Size: 5, Block: 4}, {N: 2, Size: 4, Block: 4},
		{N: 2, Size: maxVolume + 1, Block: 4}, {N: 2, Size: 5, Block: 0}, {N: 2, Size: 5, Block: -4}, {N: 2, Size: 5, Block: maxVolume + 1}, {N: math.MaxInt, K: math.MaxInt, Size: 5, Block: 4},
	} {
		if sums := seal.Sums(cols, g); sums != nil {
			t.Errorf("%+v: %v", g, sums)
		}
	}
	if sums := seal.Sums(cols, stripe.Geometry{N: 1, K: 0, Size: 5, Block: 4}); len(sums) != 2 || len(sums[0]) != 4 || len(sums[1]) != 4 {
		t.Errorf("none of recovery: %v", sums)
	}
}

func TestSumsOfNothing(t *testing.T) { // P24.1
	g := stripe.Geometry{N: 1, K: 1, Size: 5, Block: 4}
	if sums := seal.Sums(nil, g); len(sums) != 0 {
		t.Errorf("%v", sums)
	}
	if sums := seal.Sums([][]byte{nil, {}, {0}}, g); len(sums) != 3 || len(sums[0]) != 0 || len(sums[1]) != 0 || !slices.Equal(sums[2], []uint32{0xD202EF8D}) {
		t.Errorf("%x", sums)
	}
}

func TestSealsOfColumns(t *testing.T) { // P24.1, P24.2: what the calls are for
	r := source()
	g := stripe.Geometry{N: 3, K: 2, Size: 40, Block: 7}
	var cols [][]byte
	for _, n := range []int{40, 40, 11} {
		col, e := stripe.Column(whatever(r, n), g.Size)
		if e != api.OK {
			t.Fatal(e)
		}
		cols = append(cols, col)
	}
	follow, _ := stripe.Parity(cols, g.K)
	sums := seal.Sums(append(slices.Clone(cols), follow...), g)
	for index, col := range follow {
		likewise(t, seal.Seal{G: g, Index: index, Sums: sums}, col)
	}
}

// roomy is a seal and a column with room behind all lists.
func roomy() (seal.Seal, []byte) {
	s, col := made(source(), stripe.Geometry{N: 2, K: 1, Size: 5, Block: 5}, 0)
	for i, row := range s.Sums {
		s.Sums[i] = append(make([]uint32, 0, 5), row...)
	}
	s.Sums = append(make([][]uint32, 0, 5), s.Sums...)
	return s, append(make([]byte, 0, 20), col...)
}

func TestWhatIsHandedInIsNotTurned(t *testing.T) { // P2
	s, col := roomy()
	was, wasCol := roomy()
	b, _ := seal.Write(s, col)
	wide := append(make([]byte, 0, len(b)+9), b...)
	seal.Parse(wide)
	seal.Parse(wide[:len(b)-1])
	seal.Sums([][]byte{col, col[:7], wide}, s.G)
	if !same(s, was) || !bytes.Equal(col, wasCol) || !bytes.Equal(wide, b) {
		t.Errorf("%+v, %x, %x", s, col, wide)
	}
	if !bytes.Equal(col[:20][13:], make([]byte, 7)) || !bytes.Equal(wide[:cap(wide)][len(b):], make([]byte, cap(wide)-len(b))) {
		t.Errorf("behind the bytes: %x, %x", col[:20], wide[:cap(wide)])
	}
	for i, row := range s.Sums[:5] {
		if i < 3 && !slices.Equal(row[:5][3:], []uint32{0, 0}) || i >= 3 && row != nil {
			t.Errorf("behind the sums: %v", s.Sums[:5])
		}
	}
}

// turn turns all bytes of an answer, its spare room too.
func turn(b []byte) {
	whole := b[:cap(b)]
	for i := range whole {
		whole[i] ^= 0xFF
	}
}

// turnSums turns all sums of rows one by one, and checks that this turns no other ones.
func turnSums(t *testing.T, sums [][]uint32) {
	t.Helper()
	for i := range sums {
		var was [][]uint32
		for _, row := range sums {
			was = append(was, slices.Clone(row))
		}
		whole := sums[i][:cap(sums[i])]
		for j := range whole {
			whole[j] = ^whole[j]
		}
		for j := range sums {
			if i != j && !slices.Equal(sums[j], was[j]) {
				t.Fatalf("rows %d and %d share memory", i, j)
			}
		}
	}
	clear(sums[:cap(sums)])
}

func TestAnswersAreNew(t *testing.T) { // Rules: they share memory neither with what was handed in, nor with each other
	s, col := roomy()
	was, wasCol := roomy()
	b := likewise(t, s, col)
	wasB := slices.Clone(b)
	got, back, _ := seal.Parse(b)
	turnSums(t, got.Sums)
	if !bytes.Equal(back, col) {
		t.Error("a column shares memory with sums")
	}
	turn(back)
	if !bytes.Equal(b, wasB) {
		t.Error("what is parsed shares memory with bytes")
	}
	turnSums(t, seal.Sums([][]byte{col, col, col}, s.G))
	turn(b)
	if !same(s, was) || !bytes.Equal(col, wasCol) {
		t.Error("bytes share memory with what was handed in")
	}
}

func TestWhatIsHandedInIsNotKept(t *testing.T) { // Rules
	s, col := roomy()
	was, wasCol := roomy()
	want := written(was, wasCol)
	b := likewise(t, s, col)
	sums := seal.Sums([][]byte{col}, s.G)
	wasSums := slices.Clone(sums[0])
	turn(col)
	turnSums(t, s.Sums)
	if !bytes.Equal(b, want) || !slices.Equal(sums[0], wasSums) {
		t.Error("what is answered turns with what was handed in")
	}
	got, back, _ := seal.Parse(b)
	turn(b)
	if !same(got, was) || !bytes.Equal(back, wasCol) {
		t.Error("what is parsed turns with its bytes")
	}
}

func TestTheSameAgain(t *testing.T) { // P2
	s, col := roomy()
	first := likewise(t, s, col)
	other, its := made(source(), some[2], 1)
	likewise(t, other, its)
	seal.Parse([]byte("FLRV"))
	if again := likewise(t, s, col); !bytes.Equal(first, again) {
		t.Error("other bytes, when it's asked again")
	}
}
