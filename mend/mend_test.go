package mend_test

import (
	"bytes"
	"math"
	"math/rand/v2"
	"slices"
	"testing"

	"footlocker/api"
	"footlocker/damage"
	"footlocker/mend"
	"footlocker/seal"
	"footlocker/stripe"
	"footlocker/volume"
)

// some are right geometries: with few rows for how many columns there are, and with many.
var some = []stripe.Geometry{
	{N: 1, K: 1, Size: 5, Block: 13},
	{N: 1, K: 2, Size: 6, Block: 5},
	{N: 2, K: 2, Size: 6, Block: 7},
	{N: 2, K: 3, Size: 50, Block: 40},
	{N: 3, K: 3, Size: 9, Block: 4},
	{N: 3, K: 4, Size: 120, Block: 1},
	{N: 2, K: 4, Size: 100, Block: 9},
	{N: 4, K: 2, Size: 90, Block: maxVolume},
	{N: 1, K: 5, Size: 40, Block: 11},
	{N: 5, K: 1, Size: 60, Block: 45},
}

func TestTheExample(t *testing.T) { // P26.2, P26.3: any two of two and two
	g := stripe.Geometry{N: 2, K: 2, Size: 6, Block: 7}
	want := of(t, [][]byte{[]byte("hello"), []byte("abc")}, g)
	for i := range 4 {
		for j := range i {
			table := volume.Clone(want)
			table[i], table[j] = api.Slot{}, api.Slot{}
			if got, e := mend.Best(table, g); e != api.OK || !sameTable(got, want) {
				t.Errorf("without %d and %d: %v, %d", i, j, got, e)
			}
			if got, e := mend.Blind(table, g); e != api.OK || !sameTable(got, want) {
				t.Errorf("without %d and %d: %v, %d", i, j, got, e)
			}
		}
	}
}

func TestWholeTables(t *testing.T) { // P26.1 to P26.4
	r := source()
	for _, g := range append([]stripe.Geometry{{N: 20, K: 9, Size: 30, Block: 6}, {N: 1, K: 254, Size: 5, Block: 7}, {N: 254, K: 1, Size: 5, Block: 9}}, some...) {
		want := whole(t, r, g)
		if got, e := mend.Blind(want, g); e != api.OK || !sameTable(got, want) {
			t.Errorf("Blind, %+v: %d", g, e)
		}
		if got, e := mend.Sealed(want); e != api.OK || !sameTable(got, want) {
			t.Errorf("Sealed, %+v: %d", g, e)
		}
		if got, e := mend.Best(want, g); e != api.OK || !sameTable(got, want) {
			t.Errorf("Best, %+v: %d", g, e)
		}
	}
}

func TestWithoutRecovery(t *testing.T) { // P26.1: K is 0
	r := source()
	for _, g := range []stripe.Geometry{{N: 1, Size: 5, Block: 4}, {N: 3, Size: 100, Block: 10}, {N: 255, Size: 5, Block: 13}} {
		want := whole(t, r, g)
		if all := held(t, want, g); all != (answers{api.OK, api.ErrLost, api.OK}) {
			t.Errorf("%+v: %v", g, all)
		}
		if got, _ := mend.Blind(want, g); !sameTable(got, want) {
			t.Errorf("%+v: %v", g, got)
		}
		want[g.N-1].There = false
		if all := held(t, want, g); all != (answers{api.ErrLost, api.ErrLost, api.ErrLost}) {
			t.Errorf("%+v: %v", g, all)
		}
	}
}

func TestBlindErrors(t *testing.T) { // P26.1, P1
	g := stripe.Geometry{N: 2, K: 2, Size: 6, Block: 7}
	table := of(t, [][]byte{[]byte("hello"), []byte("abc")}, g)
	for i, c := range []struct {
		table []api.Slot
		g     stripe.Geometry
		want  api.Errno
	}{
		{table, g, api.OK},
		{table, stripe.Geometry{}, api.ErrArg},
		{nil, stripe.Geometry{}, api.ErrArg},
		{table, stripe.Geometry{N: 4, K: 0, Size: 6, Block: 0}, api.ErrArg},
		{table, stripe.Geometry{N: 4, K: 0, Size: 4, Block: 7}, api.ErrArg},
		{table, stripe.Geometry{N: 5, K: -1, Size: 6, Block: 7}, api.ErrArg},
		{table, stripe.Geometry{N: 0, K: 4, Size: 6, Block: 7}, api.ErrArg},
		{table, stripe.Geometry{N: 2, K: 2, Size: maxVolume + 1, Block: 7}, api.ErrArg},
		{table, stripe.Geometry{N: math.MaxInt, K: math.MaxInt, Size: 6, Block: 7}, api.ErrArg},
		{make([]api.Slot, 256), stripe.Geometry{N: 200, K: 56, Size: 6, Block: 7}, api.ErrArg},
		{table[:3], g, api.ErrArg},
		{append(slices.Clone(table), api.Slot{}), g, api.ErrArg},
		{table, stripe.Geometry{N: 2, K: 1, Size: 6, Block: 7}, api.ErrArg},
		{table, stripe.Geometry{N: 3, K: 2, Size: 6, Block: 7}, api.ErrArg},
		{nil, g, api.ErrArg},
		{make([]api.Slot, 4), g, api.ErrLost},
		{table, stripe.Geometry{N: 4, K: 0, Size: 6, Block: 7}, api.ErrLost}, // two have more bytes
		{table, stripe.Geometry{N: 1, K: 3, Size: 6, Block: 7}, api.ErrLost}, // the three columns that are there differ
		{table, stripe.Geometry{N: 2, K: 2, Size: 5, Block: 7}, api.OK},      // Size 5 is enough for both volumes
		{table, stripe.Geometry{N: 2, K: 2, Size: 6, Block: 8}, api.OK},      // a head for other blocks is as long
	} {
		got, e := mend.Blind(c.table, c.g)
		if e != c.want || e != api.OK && got != nil {
			t.Errorf("case %d: %v, %d", i, got, e)
		}
		held(t, c.table, c.g)
	}
}

func TestSealedErrors(t *testing.T) { // P26.1, P1
	g := stripe.Geometry{N: 2, K: 2, Size: 6, Block: 7}
	table := of(t, [][]byte{[]byte("hello"), []byte("abc")}, g)
	turn := func(do func(x []api.Slot)) []api.Slot {
		other := volume.Clone(table)
		do(other)
		return other
	}
	for i, c := range []struct {
		table []api.Slot
		want  api.Errno
	}{
		{table, api.OK},
		{nil, api.ErrLost},
		{make([]api.Slot, 4), api.ErrLost},
		{table[:3], api.ErrLost},
		{append(volume.Clone(table), api.Slot{}), api.ErrLost},
		{append(volume.Clone(table), table...), api.ErrLost},
		{turn(func(x []api.Slot) { x[2].There, x[3].There = false, false }), api.ErrLost},
		{turn(func(x []api.Slot) { x[2].B, x[3].B = x[3].B, x[2].B }), api.ErrLost},
		{turn(func(x []api.Slot) { x[2].B[25] ^= 1; x[3].B[25] ^= 1 }), api.ErrLost},
		{turn(func(x []api.Slot) { x[2].B[25] ^= 1 }), api.OK},
		{turn(func(x []api.Slot) { x[0].There, x[1].There, x[2].There = false, false, false }), api.ErrLost},
		{turn(func(x []api.Slot) { x[0].B[0] ^= 1; x[1].B[0] ^= 1 }), api.OK},
		{turn(func(x []api.Slot) { x[0].B[0] ^= 1; x[1].B[0] ^= 1; x[2].B[len(x[2].B)-1] ^= 1 }), api.ErrLost},
		{turn(func(x []api.Slot) { x[0].There = false; x[1].B[0] ^= 1; x[2].B[len(x[2].B)-14] ^= 1 }), api.OK}, // but two at each block
		{turn(func(x []api.Slot) { x[0].B, x[1].B = nil, make([]byte, 7) }), api.OK},
		{turn(func(x []api.Slot) { x[0].B, x[1].B, x[3].B = nil, make([]byte, 7), x[3].B[1:] }), api.ErrLost},
	} {
		got, e := mend.Sealed(c.table)
		if e != c.want || e != api.OK && got != nil || e == api.OK && !sameTable(got, table) {
			t.Errorf("case %d: %v, %d", i, got, e)
		}
		held(t, c.table, g)
	}
}

func TestSealsThatLie(t *testing.T) { // P26.1: the sums of filled columns aren't the seal's
	g := stripe.Geometry{N: 2, K: 3, Size: 6, Block: 7}
	table := of(t, [][]byte{[]byte("hello"), []byte("abc")}, g)
	for col := range 5 {
		for block := range 2 {
			other := volume.Clone(table)
			for i := 2; i < 5; i++ {
				s, its, _ := seal.Parse(other[i].B)
				s.Sums[col][block] ^= 1
				other[i].B, _ = seal.Write(s, its)
			}
			if all := held(t, other, g); all != (answers{api.OK, api.ErrSum, api.OK}) {
				t.Errorf("sum %d of column %d: %v", block, col, all)
			}
			other[2].There, other[(col+1)%2].There = false, false
			if all := held(t, other, g); all.blind != api.OK || all.sealed != api.ErrSum || all.best != api.OK {
				t.Errorf("sum %d of column %d, and two lost: %v", block, col, all)
			}
		}
	}
}

func TestKnownColumnsThatAreNoCodewords(t *testing.T) { // P26.1, P26.4: those that are filled by aren't all that must agree
	g := stripe.Geometry{N: 2, K: 2, Size: 6, Block: 14}
	table := of(t, [][]byte{[]byte("hello"), []byte("abc")}, g)
	cols, _ := damage.Columns(table, g)
	cols[3][8] ^= 1 // a column behind the first ones that are known
	for i := 2; i < 4; i++ {
		table[i].B, _ = seal.Write(seal.Seal{G: g, Index: i - 2, Sums: seal.Sums(cols, g)}, cols[i])
	}
	if all := held(t, table, g); all != (answers{api.OK, api.ErrSum, api.OK}) {
		t.Errorf("%v", all)
	}
}

func TestColumnsThatAreNoVolumes(t *testing.T) { // P26.1: a column is no volume, or that of none
	for _, g := range []stripe.Geometry{{N: 1, K: 1, Size: 6, Block: 14}, {N: 2, K: 2, Size: 6, Block: 5}, {N: 2, K: 3, Size: 60, Block: 68}} {
		for i, c := range []struct {
			n, behind byte
			want      api.Errno
		}{{0, 0, api.ErrLost}, {1, 0, api.OK}, {1, 1, api.ErrLost}, {0, 1, api.ErrLost}, {byte(g.Size), 1, api.OK}, {byte(g.Size), 0, api.OK}, {byte(g.Size + 1), 0, api.ErrLost}, {255, 1, api.ErrLost}} {
			for which := range g.N {
				cols := make([][]byte, g.N)
				for j := range cols {
					cols[j], _ = stripe.Column([]byte("abc"), g.Size)
				}
				clear(cols[which])
				cols[which][0], cols[which][8], cols[which][g.Size+7] = c.n, 'x', c.behind
				if c.n == 0 {
					cols[which][8] = 0
				}
				table := forged(t, withParity(t, cols, g.K), g)
				if all := held(t, table, g); all != (answers{c.want, c.want, c.want}) {
					t.Errorf("%+v, case %d: %v", g, i, all)
				}
			}
		}
	}
}

func TestSumsAheadOfVolumes(t *testing.T) { // P26.1, P1: a column is no volume, and the sums aren't the seal's
	g := stripe.Geometry{N: 1, K: 1, Size: 6, Block: 8}
	cols := withParity(t, [][]byte{make([]byte, 14)}, 1)
	table := forged(t, cols, g)
	if all := held(t, table, g); all != (answers{api.ErrLost, api.ErrLost, api.ErrLost}) {
		t.Errorf("%v", all)
	}
	s, col, _ := seal.Parse(table[1].B)
	s.Sums[0][1] ^= 1
	table[1].B, _ = seal.Write(s, col)
	if all := held(t, table, g); all != (answers{api.ErrLost, api.ErrSum, api.ErrLost}) {
		t.Errorf("%v", all)
	}
	s.Sums[1][1] ^= 1 // and of a block too few are known
	table[1].B, _ = seal.Write(s, col)
	if all := held(t, table, g); all != (answers{api.ErrLost, api.ErrLost, api.ErrLost}) {
		t.Errorf("%v", all)
	}
}

func TestNoughtsAreNotKnown(t *testing.T) { // P26.1: a column that isn't there is unknown, though noughts would have the sum
	g := stripe.Geometry{N: 2, K: 1, Size: 256, Block: 1}
	other := append([]byte{0}, bytes.Repeat([]byte("B"), 255)...) // in no row both columns have another byte than 0
	table := of(t, [][]byte{[]byte("A"), other}, g)
	table[0].There, table[1].There = false, false
	if all := held(t, table, g); all != (answers{api.ErrLost, api.ErrLost, api.ErrLost}) {
		t.Errorf("%v", all)
	}
}

// worse puts something else into a slot that was there: whatever bytes, of the right length or another one.
func worse(r *rand.Rand, table []api.Slot, i, size int) {
	b := table[i].B
	switch r.IntN(7) {
	case 0:
		b = whatever(r, len(b))
	case 1:
		b = whatever(r, r.IntN(2*len(b)+2))
	case 2:
		b = turned(r, b, 1)
	case 3:
		b = turned(r, b, 1+r.IntN(2*size))
	case 4:
		b = table[r.IntN(len(table))].B
	case 5:
		b = b[:r.IntN(len(b)+1)]
	case 6:
		b = append(slices.Clone(b), whatever(r, 1+r.IntN(3))...)
	}
	table[i].B = slices.Clone(b)
}

// lose takes f slots away, and makes e others worse.
func lose(r *rand.Rand, table []api.Slot, f, e, size int) {
	for at, i := range r.Perm(len(table))[:f+e] {
		if at < f {
			table[i].There = false
			continue
		}
		worse(r, table, i, size)
	}
}

func TestBlindMakesAllAgain(t *testing.T) { // P26.2: all f and e, up to the bound
	r := source()
	for _, g := range some {
		for e := range g.K/2 + 1 {
			for f := range g.K - 2*e + 1 {
				for range 12 {
					want := whole(t, r, g)
					table := volume.Clone(want)
					lose(r, table, f, e, g.Size)
					if got, er := mend.Blind(table, g); er != api.OK || !sameTable(got, want) {
						t.Fatalf("%+v, %d lost, %d wrong: %d", g, f, e, er)
					}
					if got, er := mend.Best(table, g); er != api.OK || !sameTable(got, want) {
						t.Fatalf("Best, %+v, %d lost, %d wrong: %d", g, f, e, er)
					}
				}
			}
		}
	}
}

func TestBlindOfMany(t *testing.T) { // P26.2
	r := source()
	for _, c := range []struct {
		g    stripe.Geometry
		f, e int
	}{
		{stripe.Geometry{N: 1, K: 254, Size: 5, Block: 7}, 0, 127},
		{stripe.Geometry{N: 1, K: 254, Size: 5, Block: 7}, 254, 0},
		{stripe.Geometry{N: 254, K: 1, Size: 5, Block: 9}, 1, 0},
		{stripe.Geometry{N: 30, K: 20, Size: 300, Block: 9}, 4, 8},
		{stripe.Geometry{N: 60, K: 40, Size: 20, Block: 9}, 10, 15},
		{stripe.Geometry{N: 128, K: 127, Size: 5, Block: 9}, 63, 32},
	} {
		want := whole(t, r, c.g)
		table := volume.Clone(want)
		lose(r, table, c.f, c.e, c.g.Size)
		if got, e := mend.Blind(table, c.g); e != api.OK || !sameTable(got, want) {
			t.Errorf("%+v: %d", c, e)
		}
	}
}

func TestBlindOfTheGreatest(t *testing.T) { // P26.2
	r := source()
	g := stripe.Geometry{N: 2, K: 2, Size: maxVolume, Block: 1 << 16}
	want := of(t, [][]byte{whatever(r, maxVolume), whatever(r, maxVolume-9)}, g)
	table := volume.Clone(want)
	table[1].B = turned(r, table[1].B, 5)
	if got, e := mend.Blind(table, g); e != api.OK || !sameTable(got, want) {
		t.Errorf("one is wrong: %d", e)
	}
	table[0].There = false
	if got, e := mend.Sealed(table); e != api.OK || !sameTable(got, want) {
		t.Errorf("one is wrong, one lost: %d", e)
	}
}

func TestWrongColumnsFromRowToRow(t *testing.T) { // P26.2, P26.4: as many as may be are wrong, others in each row, so that whatever was found ahead doesn't hold
	r := source()
	for _, g := range []stripe.Geometry{{N: 2, K: 4, Size: 400, Block: 11}, {N: 3, K: 6, Size: 300, Block: 400}, {N: 1, K: 3, Size: 200, Block: 1}} {
		want := whole(t, r, g)
		want[0].B = whatever(r, g.Size)
		want = of(t, volumesOf(want[:g.N]), g)
		head := seal.Head(g)
		for wrong := range g.K/2 + 2 {
			for range 6 {
				table := volume.Clone(want)
				for at := range g.Size {
					for _, i := range r.Perm(g.N + g.K)[:wrong] {
						switch {
						case i >= g.N:
							table[i].B[head+8+at] ^= byte(1 + r.IntN(255))
						case at < len(table[i].B):
							table[i].B[at] ^= byte(1 + r.IntN(255))
						}
					}
				}
				all := held(t, table, g)
				if got, _ := mend.Blind(table, g); wrong <= g.K/2 && (all.blind != api.OK || !sameTable(got, want)) {
					t.Fatalf("%+v, %d wrong: %v", g, wrong, all)
				}
			}
		}
	}
}

// volumesOf is a table's volumes themselves.
func volumesOf(table []api.Slot) [][]byte {
	row := make([][]byte, len(table))
	for i, slot := range table {
		row[i] = slot.B
	}
	return row
}

func TestOneRowBeyondTheBound(t *testing.T) { // P26.1, P26.4: in whichever row, behind others that were told
	r := source()
	for _, g := range []stripe.Geometry{{N: 2, K: 2, Size: 120, Block: 128}, {N: 2, K: 5, Size: 60, Block: 10}, {N: 1, K: 4, Size: 40, Block: 3}} {
		row := make([][]byte, g.N)
		for i := range row {
			row[i] = whatever(r, g.Size)
		}
		want := of(t, row, g)
		head := seal.Head(g)
		met := map[api.Errno]int{}
		for at := range g.Size {
			for wrong := g.K / 2; wrong <= g.K/2+1; wrong++ {
				table := volume.Clone(want)
				for _, i := range r.Perm(g.N + g.K)[:wrong] {
					if i < g.N {
						table[i].B[at] ^= byte(1 + r.IntN(255))
					} else {
						table[i].B[head+8+at] ^= byte(1 + r.IntN(255))
					}
				}
				all := held(t, table, g)
				met[all.blind]++
				if wrong == g.K/2 && all.blind != api.OK {
					t.Fatalf("%+v, row %d: %v", g, at, all)
				}
			}
		}
		if met[api.OK] == 0 || met[api.ErrLost] == 0 {
			t.Errorf("%+v: %v", g, met)
		}
	}
}

func TestSealedMakesAllAgain(t *testing.T) { // P26.3: at each block at most K columns aren't as they were, others at each
	r := source()
	for _, g := range some {
		for range 60 {
			want := whole(t, r, g)
			for i := range g.N { // so that bytes of each block can be turned
				want[i].B = whatever(r, g.Size)
			}
			want = of(t, volumesOf(want[:g.N]), g)
			table := volume.Clone(want)
			kept := r.IntN(g.K)
			for i := range g.K {
				if i != kept { // the other seals needn't be as they were
					copy(table[g.N+i].B, turned(r, table[g.N+i].B[:seal.Head(g)], 1+r.IntN(40)))
				}
			}
			turnBlocks(r, table, g)
			if got, e := mend.Sealed(table); e != api.OK || !sameTable(got, want) {
				t.Fatalf("%+v, by seal %d: %d", g, kept, e)
			}
			if got, e := mend.Best(table, g); e != api.OK || !sameTable(got, want) {
				t.Fatalf("Best, %+v, by seal %d: %d", g, kept, e)
			}
		}
	}
}

// turnBlocks turns, at each block, up to K columns' bytes. A volume's first 8 bytes of its column stand nowhere, so those blocks that hold but these can't be turned.
func turnBlocks(r *rand.Rand, table []api.Slot, g stripe.Geometry) {
	head := seal.Head(g)
	for block := range stripe.Blocks(g) {
		from, to := block*g.Block, min((block+1)*g.Block, g.Size+8)
		for _, i := range r.Perm(g.N + g.K)[:r.IntN(g.K+1)] {
			bytes, first := table[i].B, head
			if i < g.N {
				first = -8
			}
			at := from + r.IntN(to-from) + first
			if at >= 0 {
				bytes[at] ^= byte(1 + r.IntN(255))
			}
		}
	}
}

func TestSealedWithoutSome(t *testing.T) { // P26.3: slots that aren't there, and blocks of others
	r := source()
	for _, g := range some {
		for f := range g.K {
			want := whole(t, r, g)
			table := volume.Clone(want)
			for _, i := range r.Perm(g.N + g.K - 1)[:f] { // the last one is there, with its seal
				table[i] = api.Slot{B: []byte("not there")}
			}
			if got, e := mend.Sealed(table); e != api.OK || !sameTable(got, want) {
				t.Fatalf("%+v, %d lost: %d", g, f, e)
			}
			last := table[g.N+g.K-1].B
			last[len(last)-1] ^= 1 // its seal is there, its column isn't whole
			if got, e := mend.Sealed(table); e != api.OK || !sameTable(got, want) {
				t.Fatalf("%+v, %d lost, one wrong: %d", g, f, e)
			}
		}
	}
}

func TestWhateverTables(t *testing.T) { // P26.1, P26.4
	r := source()
	met := map[answers]int{}
	for range 2500 {
		g := some[r.IntN(len(some))]
		table := whole(t, r, g)
		f := r.IntN(min(g.K+2, len(table)))
		lose(r, table, f, r.IntN(min(3, len(table)-f+1)), g.Size)
		met[held(t, table, g)]++
	}
	for _, all := range []answers{{api.OK, api.OK, api.OK}, {api.OK, api.ErrLost, api.OK}, {api.ErrLost, api.OK, api.OK}, {api.ErrLost, api.ErrLost, api.ErrLost}} {
		if met[all] == 0 {
			t.Errorf("%v weren't met: %v", all, met)
		}
	}
}

func TestColumnsOfWhateverBytes(t *testing.T) { // P26.1, P26.4: with seals that stand right
	r := source()
	for range 1500 {
		g := stripe.Geometry{N: 1 + r.IntN(3), K: 1 + r.IntN(4), Size: 5 + r.IntN(12), Block: 1 + r.IntN(20)}
		cols := make([][]byte, g.N)
		for i := range cols {
			cols[i], _ = stripe.Column(whatever(r, r.IntN(g.Size+1)), g.Size)
			cols[i] = turned(r, cols[i], 60)
		}
		table := forged(t, withParity(t, cols, g.K), g)
		for i := range g.N {
			if b, e := stripe.Volume(cols[i]); e == api.OK && r.IntN(2) == 0 {
				table[i] = api.Slot{There: true, B: b}
			}
		}
		held(t, table, g)
	}
}

func TestBestPrefersTheSeal(t *testing.T) { // P26.1: where both ways tell, and not the same
	g := stripe.Geometry{N: 1, K: 2, Size: 6, Block: 7}
	a, b := of(t, [][]byte{[]byte("A")}, g), of(t, [][]byte{[]byte("B")}, g)
	table := []api.Slot{a[0], b[1], a[2]}
	if all := held(t, table, g); all != (answers{api.OK, api.OK, api.OK}) {
		t.Fatalf("%v", all)
	}
	if got, _ := mend.Blind(table, g); !sameTable(got, a) {
		t.Errorf("Blind: %v", got)
	}
	if got, _ := mend.Sealed(table); !sameTable(got, b) {
		t.Errorf("Sealed: %v", got)
	}
	if got, _ := mend.Best(table, g); !sameTable(got, b) {
		t.Errorf("Best: %v", got)
	}
}

func TestBestOfAnotherGeometry(t *testing.T) { // P26.1: the seal's isn't the one that is handed in
	g, h := stripe.Geometry{N: 1, K: 2, Size: 6, Block: 7}, stripe.Geometry{N: 1, K: 2, Size: 6, Block: 8}
	a, b := of(t, [][]byte{[]byte("A")}, g), of(t, [][]byte{[]byte("B")}, h)
	table := []api.Slot{a[0], b[1], a[2]}
	if got, e := mend.Best(table, g); e != api.OK || !sameTable(got, a) {
		t.Errorf("%v, %d", got, e)
	}
	if got, e := mend.Best(table, h); e != api.OK || !sameTable(got, b) {
		t.Errorf("%v, %d", got, e)
	}
	for _, other := range []stripe.Geometry{{}, {N: 1, K: 3, Size: 6, Block: 7}, {N: 1, K: 1, Size: 6, Block: 7}, {N: 1, K: 2, Size: 6, Block: 0}, {N: 1, K: 2, Size: 4, Block: 7}} {
		if got, e := mend.Best(a, other); e != api.ErrArg || got != nil {
			t.Errorf("%+v: %v, %d", other, got, e)
		}
	}
	if got, e := mend.Best(a, stripe.Geometry{N: 2, K: 1, Size: 6, Block: 7}); e != api.OK || string(got[1].B) != "A" { // the slots may be such a table's, of which the second volume is lost
		t.Errorf("%v, %d", got, e)
	}
	for _, size := range []int{5, 6, 7, 14} { // as many columns, and other lengths
		held(t, a, stripe.Geometry{N: 1, K: 2, Size: size, Block: 7})
		held(t, a, stripe.Geometry{N: 1, K: 2, Size: size, Block: 14})
	}
}

func TestTablesThatAreNotWhole(t *testing.T) { // P26.1: fewer slots, and more
	r := source()
	for _, g := range some {
		table := whole(t, r, g)
		for n := range table {
			held(t, table[:n], g)
			held(t, table[n+1:], g)
		}
		held(t, append(slices.Clone(table), table...), g)
		held(t, append(slices.Clone(table), api.Slot{}), g)
		held(t, append([]api.Slot{{}}, table...), g)
	}
}

// roomy is a table with room behind all lists; one slot isn't there, another one is turned.
func roomy(t *testing.T) ([]api.Slot, stripe.Geometry) {
	g := stripe.Geometry{N: 2, K: 3, Size: 60, Block: 7}
	table := of(t, [][]byte{bytes.Repeat([]byte("hello"), 9), []byte("abc")}, g)
	for i := range table {
		table[i].B = append(make([]byte, 0, len(table[i].B)+9), table[i].B...)
	}
	table[1].There = false
	table[0].B[0] ^= 1
	return append(make([]api.Slot, 0, 9), table...), g
}

func TestWhatIsHandedInIsNotTurned(t *testing.T) { // P26.1, P2
	table, g := roomy(t)
	was := volume.Clone(table)
	if all := held(t, table, g); all != (answers{api.OK, api.OK, api.OK}) {
		t.Errorf("%v", all)
	}
	if !sameTable(table, was) || table[:9][5].There || table[:9][5].B != nil {
		t.Error("the table is turned")
	}
	for i, slot := range table {
		if n := len(slot.B); !bytes.Equal(slot.B[n:cap(slot.B)], make([]byte, cap(slot.B)-n)) {
			t.Errorf("something was laid behind volume %d", i)
		}
	}
}

// turn turns all bytes of an answer, its spare room too.
func turn(b []byte) {
	whole := b[:cap(b)]
	for i := range whole {
		whole[i] ^= 0xFF
	}
}

func TestAnswersAreNew(t *testing.T) { // Rules: they share memory neither with what was handed in, nor with each other
	table, g := roomy(t)
	was := volume.Clone(table)
	want, _ := blind(table, g)
	for name, call := range map[string]func() ([]api.Slot, api.Errno){
		"Blind":  func() ([]api.Slot, api.Errno) { return mend.Blind(table, g) },
		"Sealed": func() ([]api.Slot, api.Errno) { return mend.Sealed(table) },
		"Best":   func() ([]api.Slot, api.Errno) { return mend.Best(table, g) },
	} {
		got, e := call()
		if e != api.OK || !sameTable(got, want) {
			t.Fatalf("%s: %d", name, e)
		}
		for i := range got {
			others := volume.Clone(got)
			turn(got[i].B)
			for j := range got {
				if i != j && !bytes.Equal(got[j].B, others[j].B) {
					t.Fatalf("%s: volumes %d and %d share memory", name, i, j)
				}
			}
		}
		clear(got[:cap(got)])
		if !sameTable(table, was) {
			t.Fatalf("%s: an answer shares memory with the table", name)
		}
	}
}

func TestWhatIsHandedInIsNotKept(t *testing.T) { // Rules
	table, g := roomy(t)
	want, _ := blind(table, g)
	first, _ := mend.Blind(table, g)
	second, _ := mend.Sealed(table)
	third, _ := mend.Best(table, g)
	for _, slot := range table {
		turn(slot.B)
	}
	clear(table)
	if !sameTable(first, want) || !sameTable(second, want) || !sameTable(third, want) {
		t.Error("an answer turns with the table")
	}
}

func TestTheSameAgain(t *testing.T) { // P2
	table, g := roomy(t)
	first, _ := mend.Best(table, g)
	other := stripe.Geometry{N: 3, K: 3, Size: 200, Block: 9}
	held(t, whole(t, source(), other), other)
	mend.Blind(nil, g)
	if again, e := mend.Best(table, g); e != api.OK || !sameTable(first, again) {
		t.Errorf("another table, when it's asked again: %d", e)
	}
}
