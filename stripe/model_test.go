package stripe_test

import (
	"encoding/binary"
	"math"
	"math/rand/v2"
	"slices"
	"testing"

	"footlocker/api"
	"footlocker/stripe"
	"footlocker/systematic"
)

// maxVolume is how many bytes volumes have at most.
const maxVolume = 1 << 24

// source tells the same numbers in each run.
func source() *rand.Rand { return rand.New(rand.NewPCG(45, 46)) }

// far are numbers that are far out.
var far = []int{math.MinInt, math.MinInt + 1, math.MinInt32, math.MaxInt32, math.MaxInt - 1, math.MaxInt}

// counts are numbers about the bounds of how many volumes there may be, and sizes about those of how great they, and their blocks, may be.
var (
	counts = append([]int{-256, -255, -1, 0, 1, 2, 100, 127, 128, 153, 154, 155, 156, 253, 254, 255, 256, 257}, far...)
	sizes  = append([]int{-maxVolume, -5, -1, 0, 1, 2, 3, 4, 5, 6, 7, 8, 12, 13, 14, 255, 256, maxVolume - 1, maxVolume, maxVolume + 1, maxVolume + 7, maxVolume + 8, maxVolume + 9}, far...)
)

// geometries are all of these numbers.
func geometries(do func(g stripe.Geometry)) {
	for _, n := range counts {
		for _, k := range counts {
			for _, size := range sizes {
				for _, block := range sizes {
					do(stripe.Geometry{N: n, K: k, Size: size, Block: block})
				}
			}
		}
	}
}

// within tells whether a number is one of those from low to high.
func within(n, low, high int) bool { return low <= n && n <= high }

// right tells whether a geometry is right, by the chapter's words.
func right(g stripe.Geometry) bool {
	if !within(g.N, 1, 255) || !within(g.K, 0, 255) || g.N+g.K > 255 {
		return false
	}
	return within(g.Size, 5, maxVolume) && within(g.Block, 1, maxVolume)
}

// column is a volume's column, by the chapter's words.
func column(b []byte, size int) ([]byte, api.Errno) {
	if !within(size, 5, maxVolume) {
		return nil, api.ErrArg
	}
	if len(b) > size {
		return nil, api.ErrLong
	}
	col := binary.LittleEndian.AppendUint64(nil, uint64(len(b)))
	col = append(col, b...)
	for len(col) < size+8 {
		col = append(col, 0)
	}
	return col, api.OK
}

// volume is a column's volume, by the chapter's words.
func volume(col []byte) ([]byte, api.Errno) {
	if len(col) < 8 {
		return nil, api.ErrShort
	}
	n := binary.LittleEndian.Uint64(col)
	if n > uint64(len(col)-8) {
		return nil, api.ErrRange
	}
	for _, v := range col[8+n:] {
		if v != 0 {
			return nil, api.ErrForm
		}
	}
	return col[8 : 8+n], api.OK
}

// parityError is the error of k columns behind some, by the chapter's words.
func parityError(cols [][]byte, k int) api.Errno {
	if len(cols) == 0 || k < 0 {
		return api.ErrArg
	}
	for _, col := range cols {
		if len(col) != len(cols[0]) {
			return api.ErrArg
		}
	}
	if len(cols) > 255 || k > 255 || len(cols)+k > 255 {
		return api.ErrMany
	}
	return api.OK
}

// rowAt is a row of columns.
func rowAt(cols [][]byte, at int) []byte {
	var row []byte
	for _, col := range cols {
		row = append(row, col[at])
	}
	return row
}

// follows checks that columns follow some: as many as there should be, all as long, and each of these rows a codeword, as layer 4 tells it.
func follows(t *testing.T, cols, follow [][]byte, k int, rows []int) {
	t.Helper()
	if len(follow) != k || slices.ContainsFunc(follow, func(col []byte) bool { return len(col) != len(cols[0]) }) {
		t.Fatalf("%d columns of %d bytes, and %d: %d follow, or others aren't as long", len(cols), len(cols[0]), k, len(follow))
	}
	for _, at := range rows {
		row, behind := rowAt(cols, at), rowAt(follow, at)
		want, e := systematic.Encode(row, k)
		if !slices.Equal(behind, want) || e != api.OK {
			t.Fatalf("%d columns of %d bytes, and %d: behind row %d stands %v, not %v", len(cols), len(cols[0]), k, at, behind, want)
		}
		if !systematic.Is(append(row, behind...), len(cols)) {
			t.Fatalf("%d columns of %d bytes, and %d: row %d is no codeword", len(cols), len(cols[0]), k, at)
		}
	}
}

// upTo is the numbers below n.
func upTo(n int) []int {
	all := make([]int, n)
	for i := range all {
		all[i] = i
	}
	return all
}

// columns are n columns of whatever bytes.
func columns(r *rand.Rand, n, long int) [][]byte {
	cols := make([][]byte, n)
	for i := range cols {
		cols[i] = make([]byte, long)
		for at := range cols[i] {
			cols[i][at] = byte(r.Uint32())
		}
	}
	return cols
}
