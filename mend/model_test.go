package mend_test

import (
	"bytes"
	"math/rand/v2"
	"slices"
	"testing"

	"footlocker/api"
	"footlocker/damage"
	"footlocker/mend"
	"footlocker/seal"
	"footlocker/stripe"
	"footlocker/systematic"
	"footlocker/volume"
	"footlocker/welch"
)

// maxVolume is how many bytes volumes have at most.
const maxVolume = 1 << 24

// source tells the same numbers in each run.
func source() *rand.Rand { return rand.New(rand.NewPCG(51, 52)) }

// rowAt is a row of columns; 0 where one isn't there.
func rowAt(cols [][]byte, at int) []byte {
	row := make([]byte, len(cols))
	for i, col := range cols {
		if len(col) > 0 {
			row[i] = col[at]
		}
	}
	return row
}

// laid is the table of the first columns' volumes, by the chapter's words.
func laid(cols [][]byte, g stripe.Geometry) ([]api.Slot, api.Errno) {
	var row [][]byte
	for _, col := range cols[:g.N] {
		b, e := stripe.Volume(col)
		if e != api.OK || len(b) == 0 {
			return nil, api.ErrLost
		}
		row = append(row, b)
	}
	return damage.Set(row, g.K, g.Size, g.Block)
}

// blind is what Blind answers, by the chapter's words.
func blind(table []api.Slot, g stripe.Geometry) ([]api.Slot, api.Errno) {
	if !stripe.Right(g) || len(table) != g.N+g.K {
		return nil, api.ErrArg
	}
	cols, there := damage.Columns(table, g)
	told := make([][]byte, len(cols))
	for at := range g.Size + 8 {
		word, _, e := welch.Decode(rowAt(cols, at), there, g.N)
		if e != api.OK {
			return nil, api.ErrLost
		}
		for i, v := range word {
			told[i] = append(told[i], v)
		}
	}
	return laid(told, g)
}

// sealed is what Sealed answers, by the chapter's words.
func sealed(table []api.Slot) ([]api.Slot, api.Errno) {
	s, ok := damage.Find(table)
	if !ok || len(table) != s.G.N+s.G.K {
		return nil, api.ErrLost
	}
	cols, _ := damage.Columns(table, s.G)
	known := damage.Known(cols, s.Sums, s.G)
	told := make([][]byte, len(cols))
	for at := range s.G.Size + 8 {
		there := make([]bool, len(cols))
		for i := range there {
			there[i] = known[i][at/s.G.Block]
		}
		word, e := systematic.Fill(rowAt(cols, at), there, s.G.N)
		if e != api.OK {
			return nil, api.ErrLost
		}
		for i, v := range word {
			told[i] = append(told[i], v)
		}
	}
	for i, row := range seal.Sums(told, s.G) {
		if !slices.Equal(row, s.Sums[i]) {
			return nil, api.ErrSum
		}
	}
	return laid(told, s.G)
}

// best is what Best answers, by the chapter's words.
func best(table []api.Slot, g stripe.Geometry) ([]api.Slot, api.Errno) {
	whole, e := sealed(table)
	if s, _ := damage.Find(table); e == api.OK && s.G == g {
		return whole, api.OK
	}
	return blind(table, g)
}

// sameTable tells whether two tables are the same, bit for bit.
func sameTable(a, b []api.Slot) bool {
	return slices.EqualFunc(a, b, func(x, y api.Slot) bool { return x.There == y.There && bytes.Equal(x.B, y.B) })
}

// codewords checks that each row of a table's columns is a codeword, and that all are there.
func codewords(t *testing.T, table []api.Slot, g stripe.Geometry) {
	t.Helper()
	cols, there := damage.Columns(table, g)
	if slices.Contains(there, false) || len(table) != g.N+g.K {
		t.Fatalf("%+v, of %d slots: %v", g, len(table), there)
	}
	for at := range g.Size + 8 {
		if row := rowAt(cols, at); !systematic.Is(row, g.N) {
			t.Fatalf("%+v: row %d, %v, is no codeword", g, at, row)
		}
	}
}

// answers are errors that all three calls have for a table.
type answers struct{ blind, sealed, best api.Errno }

// held checks what all three calls answer for a table against the chapter's words, that the table isn't turned, and that what is made are codewords. It tells the errors.
func held(t *testing.T, table []api.Slot, g stripe.Geometry) answers {
	t.Helper()
	was := volume.Clone(table)
	check := func(name string, got, want []api.Slot, e, wanted api.Errno) api.Errno {
		t.Helper()
		if !sameTable(got, want) || e != wanted || e != api.OK && got != nil {
			t.Fatalf("%s, %+v, of %v: %v, %d, not %v, %d", name, g, was, got, e, want, wanted)
		}
		if !sameTable(table, was) {
			t.Fatalf("%s, %+v: the table is turned: %v, not %v", name, g, table, was)
		}
		return e
	}
	var all answers
	got, e := mend.Blind(table, g)
	want, wanted := blind(table, g)
	all.blind = check("Blind", got, want, e, wanted)
	if e == api.OK {
		codewords(t, got, g)
	}
	got, e = mend.Sealed(table)
	want, wanted = sealed(table)
	all.sealed = check("Sealed", got, want, e, wanted)
	if s, _ := damage.Find(table); e == api.OK {
		codewords(t, got, s.G)
	}
	got, e = mend.Best(table, g)
	want, wanted = best(table, g)
	all.best = check("Best", got, want, e, wanted)
	if e == api.OK {
		codewords(t, got, g)
	}
	return all
}

// whatever is n bytes.
func whatever(r *rand.Rand, n int) []byte {
	b := make([]byte, n)
	for i := range b {
		b[i] = byte(r.Uint32())
	}
	return b
}

// whole is the whole table of volumes of whatever bytes.
func whole(t *testing.T, r *rand.Rand, g stripe.Geometry) []api.Slot {
	t.Helper()
	row := make([][]byte, g.N)
	for i := range row {
		row[i] = whatever(r, 1+r.IntN(g.Size))
	}
	return of(t, row, g)
}

// of is the whole table of volumes.
func of(t *testing.T, row [][]byte, g stripe.Geometry) []api.Slot {
	t.Helper()
	table, e := damage.Set(row, g.K, g.Size, g.Block)
	if e != api.OK {
		t.Fatalf("%+v: %d", g, e)
	}
	return table
}

// turned is a volume with some of its bytes turned: each of them, or each at its odds.
func turned(r *rand.Rand, b []byte, odds int) []byte {
	other := slices.Clone(b)
	for i := range other {
		if r.IntN(odds) == 0 {
			other[i] ^= byte(1 + r.IntN(255))
		}
	}
	return other
}

// forged is the table of columns, whichever they are: the first n aren't there, and the others' seals tell the sums of all, and stand right.
func forged(t *testing.T, cols [][]byte, g stripe.Geometry) []api.Slot {
	t.Helper()
	table := make([]api.Slot, g.N+g.K)
	for i := range g.K {
		b, e := seal.Write(seal.Seal{G: g, Index: i, Sums: seal.Sums(cols, g)}, cols[g.N+i])
		if e != api.OK {
			t.Fatal(e)
		}
		table[g.N+i] = api.Slot{There: true, B: b}
	}
	return table
}

// withParity is columns, and those that follow.
func withParity(t *testing.T, cols [][]byte, k int) [][]byte {
	t.Helper()
	follow, e := stripe.Parity(cols, k)
	if e != api.OK {
		t.Fatal(e)
	}
	return append(slices.Clone(cols), follow...)
}
