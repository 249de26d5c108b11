package damage_test

import (
	"bytes"
	"encoding/binary"
	"hash/crc32"
	"math/rand/v2"
	"slices"
	"testing"

	"footlocker/api"
	"footlocker/damage"
	"footlocker/seal"
	"footlocker/stripe"
	"footlocker/systematic"
)

// maxVolume is how many bytes volumes have at most.
const maxVolume = 1 << 24

// source tells the same numbers in each run.
func source() *rand.Rand { return rand.New(rand.NewPCG(49, 50)) }

// within tells whether a number is one of those from low to high.
func within(n, low, high int) bool { return low <= n && n <= high }

// right tells whether a geometry is right, by layer 23's words.
func right(g stripe.Geometry) bool {
	return within(g.N, 1, 255) && within(g.K, 0, 255) && g.N+g.K <= 255 && within(g.Size, 5, maxVolume) && within(g.Block, 1, maxVolume)
}

// wrongGeometries are such, each by one number or several.
var wrongGeometries = []stripe.Geometry{
	{}, {N: 0, K: 2, Size: 5, Block: 4}, {N: -1, K: 2, Size: 5, Block: 4}, {N: 1, K: -1, Size: 5, Block: 4}, {N: 254, K: 2, Size: 5, Block: 4}, {N: 256, Size: 5, Block: 4}, {N: 2, K: 2, Size: 4, Block: 4},
	{N: 2, K: 2, Size: maxVolume + 1, Block: 4}, {N: 2, K: 2, Size: 5, Block: 0}, {N: 2, K: 2, Size: 5, Block: -4}, {N: 2, K: 2, Size: 5, Block: maxVolume + 1}, {N: 1 << 62, K: 1 << 62, Size: 5, Block: 4},
}

// blocks is how many blocks a column of a right geometry has: a last one that isn't whole, too.
func blocks(g stripe.Geometry) int {
	n := (g.Size + 8) / g.Block
	if n*g.Block < g.Size+8 {
		n++
	}
	return n
}

// headOf is how many bytes stand ahead of a column of a right geometry, by layer 24's words.
func headOf(g stripe.Geometry) int { return 20 + 4*(g.N+g.K)*blocks(g) + 4 }

// column is a volume's column, by layer 23's words.
func column(b []byte, size int) []byte {
	col := binary.LittleEndian.AppendUint64(nil, uint64(len(b)))
	col = append(col, b...)
	return append(col, make([]byte, size-len(b))...)
}

// written is the bytes of a seal and a column, by layer 24's words.
func written(s seal.Seal, col []byte) []byte {
	le := binary.LittleEndian
	b := []byte("FLRV\x01\x00")
	for _, n := range []int{s.G.N, s.G.K, s.Index} {
		b = le.AppendUint16(b, uint16(n))
	}
	b = le.AppendUint32(b, uint32(s.G.Size))
	b = le.AppendUint32(b, uint32(s.G.Block))
	for _, row := range s.Sums {
		for _, sum := range row {
			b = le.AppendUint32(b, sum)
		}
	}
	b = le.AppendUint32(b, crc32.ChecksumIEEE(b))
	return append(b, col...)
}

// sumsOf is the sums of blocks of columns.
func sumsOf(cols [][]byte, block int) [][]uint32 {
	sums := make([][]uint32, len(cols))
	for i, col := range cols {
		for piece := range slices.Chunk(col, block) {
			sums[i] = append(sums[i], crc32.ChecksumIEEE(piece))
		}
	}
	return sums
}

// allColumns is the columns of volumes, and those that follow, row by row.
func allColumns(row [][]byte, g stripe.Geometry) [][]byte {
	cols := make([][]byte, g.N+g.K)
	for i, b := range row {
		cols[i] = column(b, g.Size)
	}
	for at := range g.Size + 8 {
		follow, _ := systematic.Encode(rowAt(cols[:g.N], at), g.K)
		for i, v := range follow {
			cols[g.N+i] = append(cols[g.N+i], v)
		}
	}
	return cols
}

// rowAt is a row of columns.
func rowAt(cols [][]byte, at int) []byte {
	var row []byte
	for _, col := range cols {
		row = append(row, col[at])
	}
	return row
}

// set is the whole table of volumes, by the chapter's words.
func set(row [][]byte, k, size, block int) ([]api.Slot, api.Errno) {
	g := stripe.Geometry{N: len(row), K: k, Size: size, Block: block}
	if !right(g) {
		return nil, api.ErrArg
	}
	for _, b := range row {
		if len(b) > size {
			return nil, api.ErrLong
		}
		if len(b) == 0 {
			return nil, api.ErrShort
		}
	}
	var table []api.Slot
	for _, b := range row {
		table = append(table, api.Slot{There: true, B: b})
	}
	cols := allColumns(row, g)
	for i := range k {
		s := seal.Seal{G: g, Index: i, Sums: sumsOf(cols, block)}
		table = append(table, api.Slot{There: true, B: written(s, cols[g.N+i])})
	}
	return table, api.OK
}

// columns is a table's columns, and which are there, by the chapter's words.
func columns(table []api.Slot, g stripe.Geometry) ([][]byte, []bool) {
	if !right(g) {
		return nil, nil
	}
	cols, there := make([][]byte, g.N+g.K), make([]bool, g.N+g.K)
	for i := range cols {
		if i >= len(table) || !table[i].There {
			continue
		}
		b := table[i].B
		if i < g.N && within(len(b), 1, g.Size) {
			cols[i], there[i] = column(b, g.Size), true
		}
		if i >= g.N && len(b) == headOf(g)+g.Size+8 {
			cols[i], there[i] = b[headOf(g):], true
		}
	}
	return cols, there
}

// known is which blocks are known, by the chapter's words.
func known(cols [][]byte, sums [][]uint32, g stripe.Geometry) [][]bool {
	if !right(g) {
		return nil
	}
	all := make([][]bool, len(cols))
	for i, col := range cols {
		all[i] = make([]bool, blocks(g))
		for j := range all[i] {
			if len(col) != g.Size+8 || i >= len(sums) || j >= len(sums[i]) {
				continue
			}
			block := col[j*g.Block : min((j+1)*g.Block, len(col))]
			all[i][j] = crc32.ChecksumIEEE(block) == sums[i][j]
		}
	}
	return all
}

// worst is how many columns aren't known where that is most, by the chapter's words.
func worst(known [][]bool) int {
	most := 0
	for _, other := range known {
		for block := range other {
			count := 0
			for _, col := range known {
				if block >= len(col) || !col[block] {
					count++
				}
			}
			most = max(most, count)
		}
	}
	return most
}

// sameTable tells whether two tables are the same, bit for bit.
func sameTable(a, b []api.Slot) bool {
	return slices.EqualFunc(a, b, func(x, y api.Slot) bool { return x.There == y.There && bytes.Equal(x.B, y.B) })
}

// sameKnown tells whether the same is known.
func sameKnown(a, b [][]bool) bool { return slices.EqualFunc(a, b, slices.Equal[[]bool]) }

// heldColumns checks what Columns answers against the chapter's words.
func heldColumns(t *testing.T, table []api.Slot, g stripe.Geometry) ([][]byte, []bool) {
	t.Helper()
	want, wanted := columns(table, g)
	cols, there := damage.Columns(table, g)
	if !slices.EqualFunc(cols, want, bytes.Equal) || !slices.Equal(there, wanted) {
		t.Fatalf("%+v, of %d slots: %v, %v, not %v, %v", g, len(table), cols, there, want, wanted)
	}
	return cols, there
}

// heldKnown checks what Known answers against the chapter's words.
func heldKnown(t *testing.T, cols [][]byte, sums [][]uint32, g stripe.Geometry) [][]bool {
	t.Helper()
	got, want := damage.Known(cols, sums, g), known(cols, sums, g)
	if !sameKnown(got, want) {
		t.Fatalf("%+v, %v, by %x: %v, not %v", g, cols, sums, got, want)
	}
	return got
}

// whatever is n bytes.
func whatever(r *rand.Rand, n int) []byte {
	b := make([]byte, n)
	for i := range b {
		b[i] = byte(r.Uint32())
	}
	return b
}

// volumes are n volumes of from 1 to size bytes; the first one has as many as may be, the last one just one.
func volumes(r *rand.Rand, n, size int) [][]byte {
	row := make([][]byte, n)
	for i := range row {
		row[i] = whatever(r, 1+r.IntN(size))
	}
	row[0] = whatever(r, size)
	row[n-1] = row[n-1][:1]
	return row
}

// some are right geometries.
var some = []stripe.Geometry{
	{N: 1, K: 0, Size: 5, Block: 13},
	{N: 1, K: 1, Size: 5, Block: 13},
	{N: 1, K: 1, Size: 5, Block: 12},
	{N: 2, K: 1, Size: 5, Block: 1},
	{N: 2, K: 2, Size: 6, Block: 7},
	{N: 3, K: 4, Size: 8, Block: 8},
	{N: 3, K: 2, Size: 300, Block: 50},
	{N: 5, K: 3, Size: 33, Block: maxVolume},
	{N: 4, K: 0, Size: 20, Block: 3},
	{N: 1, K: 254, Size: 5, Block: 7},
	{N: 254, K: 1, Size: 5, Block: 9},
	{N: 255, K: 0, Size: 5, Block: 9},
	{N: 100, K: 20, Size: 11, Block: 4},
}

// whole is the whole table of volumes, as the program makes it.
func whole(t *testing.T, row [][]byte, g stripe.Geometry) []api.Slot {
	t.Helper()
	table, e := damage.Set(row, g.K, g.Size, g.Block)
	if e != api.OK || len(table) != g.N+g.K {
		t.Fatalf("%+v: %d slots, %d", g, len(table), e)
	}
	return table
}
