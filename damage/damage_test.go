package damage_test

import (
	"bytes"
	"encoding/binary"
	"hash/crc32"
	"math"
	"slices"
	"testing"

	"footlocker/api"
	"footlocker/damage"
	"footlocker/seal"
	"footlocker/stripe"
	"footlocker/systematic"
	"footlocker/volume"
)

func TestTheExample(t *testing.T) { // P25.1
	g := stripe.Geometry{N: 1, K: 1, Size: 5, Block: 13}
	cols, there := damage.Columns(whole(t, [][]byte{{'A'}}, g), g)
	want := "\x01\x00\x00\x00\x00\x00\x00\x00A\x00\x00\x00\x00"
	if !slices.Equal(there, []bool{true, true}) || len(cols) != 2 || string(cols[0]) != want || string(cols[1]) != want {
		t.Errorf("%q, %v", cols, there)
	}
}

func TestSet(t *testing.T) { // P25.1
	r := source()
	for _, g := range some {
		row := volumes(r, g.N, g.Size)
		want, _ := set(row, g.K, g.Size, g.Block)
		if got := whole(t, row, g); !sameTable(got, want) {
			t.Fatalf("%+v: %v, not %v", g, got, want)
		}
	}
	for range 500 {
		g := stripe.Geometry{N: 1 + r.IntN(6), K: r.IntN(6), Size: 5 + r.IntN(90), Block: 1 + r.IntN(110)}
		row := volumes(r, g.N, g.Size)
		want, _ := set(row, g.K, g.Size, g.Block)
		if got := whole(t, row, g); !sameTable(got, want) {
			t.Fatalf("%+v: %v, not %v", g, got, want)
		}
	}
}

func TestSetOfTheGreatest(t *testing.T) { // P25.1, P25.2
	r := source()
	g := stripe.Geometry{N: 2, K: 1, Size: maxVolume, Block: maxVolume}
	row := [][]byte{whatever(r, maxVolume), whatever(r, 70000)}
	table := whole(t, row, g)
	if !bytes.Equal(table[0].B, row[0]) || !bytes.Equal(table[1].B, row[1]) {
		t.Error("other volumes")
	}
	cols, there := damage.Columns(table, g)
	s, ok := damage.Find(table)
	if !ok || s.G != g || !slices.Equal(there, []bool{true, true, true}) || damage.Worst(damage.Known(cols, s.Sums, g)) != 0 {
		t.Errorf("%+v, %v, %v", s.G, ok, there)
	}
	for at := 0; at < maxVolume+8; at += 9973 {
		if row := rowAt(cols, at); !systematic.Is(row, 2) {
			t.Fatalf("row %d: %v", at, row)
		}
	}
}

func TestSetErrors(t *testing.T) { // P25.1, P1
	one := func(n int) [][]byte { return [][]byte{make([]byte, n)} }
	many := func(n int) [][]byte { return slices.Repeat([][]byte{{1}}, n) }
	for i, c := range []struct {
		row            [][]byte
		k, size, block int
		want           api.Errno
	}{
		{nil, 1, 5, 4, api.ErrArg},
		{[][]byte{}, 0, 5, 4, api.ErrArg},
		{one(1), -1, 5, 4, api.ErrArg},
		{one(1), math.MinInt, 5, 4, api.ErrArg},
		{one(1), 0, 5, 4, api.OK},
		{one(1), 254, 5, 4, api.OK},
		{one(1), 255, 5, 4, api.ErrArg},
		{one(1), math.MaxInt, 5, 4, api.ErrArg},
		{many(255), 0, 5, 4, api.OK},
		{many(255), 1, 5, 4, api.ErrArg},
		{many(256), 0, 5, 4, api.ErrArg},
		{many(256), -1, 5, 4, api.ErrArg},
		{one(1), 1, 4, 4, api.ErrArg},
		{one(1), 1, 5, 4, api.OK},
		{one(1), 1, maxVolume + 1, 4, api.ErrArg},
		{one(1), 1, math.MaxInt, 4, api.ErrArg},
		{one(1), 1, math.MinInt, 4, api.ErrArg},
		{one(1), 1, 5, 0, api.ErrArg},
		{one(1), 1, 5, -1, api.ErrArg},
		{one(1), 1, 5, maxVolume, api.OK},
		{one(1), 1, 5, maxVolume + 1, api.ErrArg},
		{one(5), 1, 5, 4, api.OK},
		{one(6), 1, 5, 4, api.ErrLong},
		{one(0), 1, 5, 4, api.ErrShort},
		{[][]byte{nil}, 1, 5, 4, api.ErrShort},
		{one(6), 255, 5, 4, api.ErrArg}, // and too long
		{one(0), 1, 4, 4, api.ErrArg},   // and none
		{one(5), 1, 4, 4, api.ErrArg},
		{[][]byte{{1}, {}, make([]byte, 6)}, 1, 5, 4, api.ErrShort}, // volume by volume
		{[][]byte{{1}, make([]byte, 6), {}}, 1, 5, 4, api.ErrLong},
		{[][]byte{make([]byte, 6), {}}, 0, 5, 4, api.ErrLong},
		{[][]byte{{}, make([]byte, 6)}, 0, 5, 4, api.ErrShort},
		{append(many(254), nil), 0, 5, 4, api.ErrShort},
		{append(many(254), make([]byte, 6)), 0, 5, 4, api.ErrLong},
		{append(many(255), make([]byte, 6)), 0, 5, 4, api.ErrArg},
	} {
		table, e := damage.Set(c.row, c.k, c.size, c.block)
		if e != c.want || e != api.OK && table != nil {
			t.Errorf("case %d: %d slots, %d", i, len(table), e)
		}
		if _, wanted := set(c.row, c.k, c.size, c.block); e != wanted {
			t.Errorf("case %d: %d, not %d", i, e, wanted)
		}
	}
}

func TestColumnsOfWholeTables(t *testing.T) { // P25.1, P25.2
	r := source()
	for _, g := range some {
		row := volumes(r, g.N, g.Size)
		cols, there := heldColumns(t, whole(t, row, g), g)
		if slices.Contains(there, false) || !slices.EqualFunc(cols, allColumns(row, g), bytes.Equal) {
			t.Fatalf("%+v: %v, %v", g, cols, there)
		}
		for at := range g.Size + 8 {
			if row := rowAt(cols, at); !systematic.Is(row, g.N) {
				t.Fatalf("%+v: row %d, %v, is no codeword", g, at, row)
			}
		}
	}
}

func TestColumnsByLengths(t *testing.T) { // P25.1: of volumes, and of volumes of recovery
	r := source()
	for _, g := range []stripe.Geometry{{N: 2, K: 2, Size: 6, Block: 7}, {N: 1, K: 1, Size: 5, Block: 13}, {N: 3, K: 1, Size: 20, Block: 1}} {
		table := whole(t, volumes(r, g.N, g.Size), g)
		for i := range table {
			for n := range headOf(g) + g.Size + 20 {
				other := volume.Clone(table)
				other[i].B = whatever(r, n)
				_, there := heldColumns(t, other, g)
				if want := i < g.N && within(n, 1, g.Size) || i >= g.N && n == headOf(g)+g.Size+8; there[i] != want {
					t.Fatalf("%+v, slot %d of %d bytes: %v", g, i, n, there)
				}
				other[i].There = false
				if cols, there := heldColumns(t, other, g); there[i] || len(cols[i]) != 0 {
					t.Fatalf("%+v, slot %d, that isn't there: %v", g, i, there)
				}
			}
		}
	}
}

func TestColumnsOfTurnedHeads(t *testing.T) { // P25.1: what stands ahead of a column isn't asked
	g := stripe.Geometry{N: 2, K: 2, Size: 6, Block: 7}
	table := whole(t, [][]byte{[]byte("hello"), []byte("abc")}, g)
	want := slices.Clone(table[3].B[headOf(g):])
	for at := range headOf(g) {
		table[3].B[at] ^= 0xFF
		cols, there := heldColumns(t, table, g)
		if !there[3] || !bytes.Equal(cols[3], want) {
			t.Fatalf("byte %d: %v, %v", at, cols[3], there)
		}
	}
}

func TestColumnsOfOtherTables(t *testing.T) { // P25.1: with fewer slots, or more, and by other geometries
	r := source()
	for _, g := range []stripe.Geometry{{N: 2, K: 2, Size: 6, Block: 7}, {N: 3, K: 0, Size: 9, Block: 5}, {N: 1, K: 5, Size: 5, Block: 1}} {
		table := whole(t, volumes(r, g.N, g.Size), g)
		for n := range table {
			heldColumns(t, table[:n], g)
			heldColumns(t, table[n:], g)
		}
		heldColumns(t, append(slices.Clone(table), table...), g)
		heldColumns(t, make([]api.Slot, 300), g)
		heldColumns(t, nil, g)
		for range 300 {
			other := stripe.Geometry{N: 1 + r.IntN(4), K: r.IntN(5), Size: 5 + r.IntN(9), Block: 1 + r.IntN(20)}
			heldColumns(t, table, other)
		}
		for _, wrong := range wrongGeometries {
			if cols, there := damage.Columns(table, wrong); cols != nil || there != nil {
				t.Errorf("%+v: %v, %v", wrong, cols, there)
			}
		}
	}
	cols, there := damage.Columns(nil, stripe.Geometry{N: 200, K: 55, Size: maxVolume, Block: 1})
	if len(cols) != 255 || len(there) != 255 || slices.Contains(there, true) {
		t.Errorf("%d columns, %v", len(cols), there)
	}
}

func TestKnownOfWholeTables(t *testing.T) { // P25.2: all blocks, by each seal
	r := source()
	for _, g := range some {
		table := whole(t, volumes(r, g.N, g.Size), g)
		cols, _ := damage.Columns(table, g)
		for _, slot := range table[g.N:] {
			s, _, e := seal.Parse(slot.B)
			if e != api.OK {
				t.Fatalf("%+v: %d", g, e)
			}
			all := heldKnown(t, cols, s.Sums, g)
			if len(all) != g.N+g.K || damage.Worst(all) != 0 {
				t.Fatalf("%+v: %v", g, all)
			}
			for _, col := range all {
				if len(col) != blocks(g) || slices.Contains(col, false) {
					t.Fatalf("%+v: %v", g, all)
				}
			}
		}
	}
}

func TestKnownWithoutSome(t *testing.T) { // P25.2: with slots that aren't there, the others are
	r := source()
	g := stripe.Geometry{N: 3, K: 3, Size: 9, Block: 4}
	row := volumes(r, g.N, g.Size)
	want := allColumns(row, g)
	for gone := range 1 << 6 {
		table := whole(t, row, g)
		for i := range table {
			table[i].There = gone>>i&1 == 0
		}
		cols, there := heldColumns(t, table, g)
		all := heldKnown(t, cols, sumsOf(want, g.Block), g)
		count := 0
		for i := range table {
			is := gone>>i&1 == 0
			if there[i] != is || is && !bytes.Equal(cols[i], want[i]) || !is && cols[i] != nil || slices.Contains(all[i], !is) {
				t.Fatalf("%06b, slot %d: %v, %v", gone, i, there, all)
			}
			if !is {
				count++
			}
		}
		if n := damage.Worst(all); n != count {
			t.Fatalf("%06b: worst is %d, not %d", gone, n, count)
		}
	}
}

func TestKnownWithTurnedBytes(t *testing.T) { // P25.1: each byte turns the block that it is in, and no other one
	r := source()
	for _, g := range []stripe.Geometry{{N: 2, K: 1, Size: 12, Block: 1}, {N: 2, K: 1, Size: 12, Block: 6}, {N: 1, K: 2, Size: 12, Block: 10}, {N: 1, K: 1, Size: 12, Block: 20}, {N: 1, K: 1, Size: 12, Block: 100}} {
		cols := allColumns(volumes(r, g.N, g.Size), g)
		sums := sumsOf(cols, g.Block)
		for i, col := range cols {
			for at := range col {
				for _, by := range []byte{1, 0x80, 0xFF} {
					col[at] ^= by
					all := heldKnown(t, cols, sums, g)
					for j := range all {
						for block, is := range all[j] {
							if is != (i != j || block != at/g.Block) {
								t.Fatalf("%+v, byte %d of column %d: %v", g, at, i, all)
							}
						}
					}
					col[at] ^= by
				}
			}
		}
	}
}

func TestKnownOfOtherLengths(t *testing.T) { // P25.1
	r := source()
	g := stripe.Geometry{N: 2, K: 1, Size: 12, Block: 6}
	cols := allColumns(volumes(r, g.N, g.Size), g)
	for n := range 40 {
		other := slices.Clone(cols)
		other[1] = append(slices.Clone(cols[1]), make([]byte, 20)...)[:n]
		all := heldKnown(t, other, sumsOf(other, g.Block), g) // the sums agree, as far as there are any
		if len(all[1]) != 4 || slices.Contains(all[1], n != 20) || slices.Contains(all[0], false) {
			t.Fatalf("%d bytes: %v", n, all)
		}
	}
}

func TestKnownByOtherSums(t *testing.T) { // P25.1: rows, and sums, that aren't there, and such as are too many
	r := source()
	g := stripe.Geometry{N: 2, K: 2, Size: 12, Block: 6}
	cols := allColumns(volumes(r, g.N, g.Size), g)
	sums := sumsOf(cols, g.Block)
	for n := range 5 {
		heldKnown(t, cols, sums[:n], g)
		heldKnown(t, cols[:n], sums, g)
		heldKnown(t, cols, append(slices.Clone(sums), sums...)[n:], g)
		heldKnown(t, append(slices.Clone(cols), cols...), append(slices.Clone(sums), sums[:n]...), g)
		other := slices.Clone(sums)
		other[1] = sums[1][:n]
		all := heldKnown(t, cols, other, g)
		for block, is := range all[1] {
			if is != (block < n) {
				t.Fatalf("%d sums: %v", n, all)
			}
		}
		other[1] = append(slices.Clone(sums[1]), sums[0][:n]...)
		if all := heldKnown(t, cols, other, g); slices.Contains(all[1], false) {
			t.Fatalf("%d sums more: %v", n, all)
		}
		other[2] = slices.Clone(sums[2])
		if n < 4 {
			other[2][n]++
		}
		heldKnown(t, cols, other, g)
	}
	heldKnown(t, nil, nil, g)
	heldKnown(t, cols, nil, g)
	heldKnown(t, nil, sums, g)
	heldKnown(t, cols, [][]uint32{nil, {}, nil, nil, nil}, g)
	heldKnown(t, make([][]byte, 300), sums, g)
	noughts := [][]byte{nil, make([]byte, 20)}
	heldKnown(t, noughts, [][]uint32{{0, 0, 0, 0}, sumsOf(noughts, 6)[1]}, g) // 0 is the sum of no bytes
}

func TestKnownOfWrongGeometries(t *testing.T) { // P25.1
	cols := [][]byte{make([]byte, 13), make([]byte, 13)}
	for _, g := range wrongGeometries {
		if all := damage.Known(cols, sumsOf(cols, 4), g); all != nil {
			t.Errorf("%+v: %v", g, all)
		}
	}
	all := damage.Known(cols, sumsOf(cols, 4), stripe.Geometry{N: 9, K: 0, Size: 5, Block: 4}) // as many as are handed in
	if !sameKnown(all, [][]bool{{true, true, true, true}, {true, true, true, true}}) {
		t.Errorf("%v", all)
	}
}

func TestFind(t *testing.T) { // P25.1: the first seal that is there
	r := source()
	for _, g := range some {
		row := volumes(r, g.N, g.Size)
		table := whole(t, row, g)
		sums := sumsOf(allColumns(row, g), g.Block)
		for index := range min(g.K, 9) {
			s, ok := damage.Find(table)
			if !ok || s.G != g || s.Index != index || !slices.EqualFunc(s.Sums, sums, slices.Equal[[]uint32]) {
				t.Fatalf("%+v: %+v, %v, not the %d. one", g, s, ok, index)
			}
			table[g.N+index].There = false
		}
		for i := g.N; i < len(table); i++ {
			table[i].There = false
		}
		if s, ok := damage.Find(table); ok || s.G != (stripe.Geometry{}) || s.Index != 0 || s.Sums != nil {
			t.Fatalf("%+v: %+v, %v", g, s, ok)
		}
	}
}

func TestFindWhereItMustStand(t *testing.T) { // P25.1
	g := stripe.Geometry{N: 2, K: 3, Size: 6, Block: 7}
	table := whole(t, [][]byte{[]byte("hello"), []byte("abc")}, g)
	for from := 2; from < 5; from++ {
		for to := range 8 {
			other := make([]api.Slot, 8)
			other[to] = table[from]
			if s, ok := damage.Find(other); ok != (from == to) || ok && s.Index != from-2 || !ok && s.Sums != nil {
				t.Errorf("from %d to %d: %+v, %v", from, to, s, ok)
			}
		}
	}
	for n := range 6 { // a table needn't be whole
		if s, ok := damage.Find(table[:n]); ok != (n > 2) || s.Index != 0 {
			t.Errorf("%d slots: %+v, %v", n, s, ok)
		}
	}
	if _, ok := damage.Find(append(slices.Clone(table), table...)); !ok {
		t.Error("with others behind it")
	}
	if s, ok := damage.Find(nil); ok || s.Sums != nil {
		t.Errorf("%+v, %v", s, ok)
	}
	moved := []api.Slot{table[0], table[1], table[3], table[2], table[4]}
	if s, ok := damage.Find(moved); !ok || s.Index != 2 {
		t.Errorf("two that changed places: %+v, %v", s, ok)
	}
}

func TestFindOfOtherGeometries(t *testing.T) { // P25.1: whatever the table is, the first one that stands right
	g, h := stripe.Geometry{N: 2, K: 2, Size: 200, Block: 70}, stripe.Geometry{N: 1, K: 2, Size: 5, Block: 13}
	inner := whole(t, [][]byte{[]byte("A")}, h)
	table := whole(t, [][]byte{[]byte("hello"), inner[1].B}, g) // a volume that is a seal of another table
	if s, ok := damage.Find(table); !ok || s.G != h || s.Index != 0 {
		t.Errorf("%+v, %v", s.G, ok)
	}
	table = whole(t, [][]byte{inner[1].B, inner[2].B}, g) // each of them one slot too early
	if s, ok := damage.Find(table); !ok || s.G != g || s.Index != 0 {
		t.Errorf("%+v, %v", s.G, ok)
	}
}

func TestFindOfTurnedSeals(t *testing.T) { // P25.1
	g := stripe.Geometry{N: 1, K: 2, Size: 6, Block: 7}
	table := whole(t, [][]byte{[]byte("hello")}, g)
	for at := range table[1].B {
		for bit := range 8 {
			table[1].B[at] ^= 1 << bit
			want := 1
			if _, _, e := seal.Parse(table[1].B); e == api.OK {
				want = 0
			}
			if s, ok := damage.Find(table); !ok || s.G != g || s.Index != want || at >= headOf(g) && want != 0 || at < headOf(g) && want != 1 {
				t.Fatalf("bit %d of byte %d: %+v, %v, not the %d. one", bit, at, s, ok, want)
			}
			table[1].B[at] ^= 1 << bit
		}
	}
	for n := range len(table[1].B) {
		other := volume.Clone(table)
		other[1].B = other[1].B[:n]
		if s, ok := damage.Find(other); !ok || s.Index != 1 {
			t.Fatalf("%d bytes: %+v, %v", n, s, ok)
		}
	}
	table[1].B = append(table[1].B, 0)
	if s, ok := damage.Find(table); !ok || s.Index != 1 {
		t.Fatalf("a byte more: %+v, %v", s, ok)
	}
}

func TestFindOfSealsOfK0(t *testing.T) { // P25.1: there are none
	b := written(seal.Seal{G: stripe.Geometry{N: 1, K: 0, Size: 5, Block: 13}, Sums: [][]uint32{{0}}}, make([]byte, 13))
	if s, ok := damage.Find([]api.Slot{{There: true, B: []byte("A")}, {There: true, B: b}}); ok || s.Sums != nil {
		t.Errorf("%+v, %v", s, ok)
	}
}

func TestWorst(t *testing.T) { // P25.1: all of up to three columns with up to three blocks
	var all [][]bool
	for n := range 4 {
		for bits := range 1 << n {
			col := make([]bool, n)
			for i := range col {
				col[i] = bits>>i&1 == 1
			}
			all = append(all, col)
		}
	}
	hold := func(known ...[]bool) {
		if got, want := damage.Worst(known), worst(known); got != want {
			t.Fatalf("%v: %d, not %d", known, got, want)
		}
	}
	hold()
	for _, a := range all {
		hold(a)
		for _, b := range all {
			hold(a, b)
			for _, c := range all {
				hold(a, b, c)
			}
		}
	}
}

func TestWorstOfFew(t *testing.T) { // P25.1
	for _, c := range []struct {
		known [][]bool
		want  int
	}{
		{nil, 0},
		{[][]bool{}, 0},
		{[][]bool{nil, {}, nil}, 0}, // there is no block
		{[][]bool{{true}}, 0},
		{[][]bool{{false}}, 1},
		{[][]bool{{true, true}, {true}}, 1},
		{[][]bool{{true}, {true, true}, nil}, 2},
		{[][]bool{nil, {false}, nil}, 3},
		{[][]bool{{true, false}, {false, true}}, 1},
		{[][]bool{{false, true, true}, {false, true, false}, {true, true, true}}, 2},
	} {
		if n := damage.Worst(c.known); n != c.want {
			t.Errorf("%v: %d, not %d", c.known, n, c.want)
		}
	}
}

func TestWorstOfManyUnlike(t *testing.T) { // P1: as many steps as there are items, not columns times blocks
	known := make([][]bool, 1<<20)
	known[7] = slices.Repeat([]bool{true}, 1<<20)
	if n := damage.Worst(known); n != 1<<20-1 {
		t.Errorf("%d", n)
	}
	known[7][1<<19] = false
	if n := damage.Worst(known); n != 1<<20 {
		t.Errorf("%d", n)
	}
}

func TestWhateverTables(t *testing.T) { // P25.1, P1
	r := source()
	for range 3000 {
		g := stripe.Geometry{N: 1 + r.IntN(4), K: r.IntN(4), Size: 5 + r.IntN(20), Block: 1 + r.IntN(30)}
		table := whole(t, volumes(r, g.N, g.Size), g)
		cols, _ := damage.Columns(table, g)
		sums := sumsOf(cols, g.Block)
		for range 1 + r.IntN(4) {
			slot := &table[r.IntN(len(table))]
			switch r.IntN(5) {
			case 0:
				slot.There = false
			case 1:
				slot.B = whatever(r, r.IntN(g.Size+2))
			case 2:
				slot.B = slot.B[:r.IntN(len(slot.B)+1)]
			case 3:
				*slot = table[r.IntN(len(table))]
			case 4:
				if len(slot.B) > 0 {
					slot.B[r.IntN(len(slot.B))] ^= byte(1 + r.IntN(255))
				}
			}
		}
		cols, _ = heldColumns(t, table, g)
		all := heldKnown(t, cols, sums, g)
		if got, want := damage.Worst(all), worst(all); got != want {
			t.Fatalf("%v: %d, not %d", all, got, want)
		}
		damage.Find(table)
	}
}

// roomy is two volumes with room behind them, in one memory, and that memory.
func roomy() ([][]byte, []byte) {
	memory := []byte("hello##abc##")
	row := [][]byte{memory[0:5:7], memory[7:10:12]}
	return append(make([][]byte, 0, 5), row...), memory
}

func TestWhatIsHandedInIsNotTurned(t *testing.T) { // P2
	row, memory := roomy()
	g := stripe.Geometry{N: 2, K: 2, Size: 6, Block: 7}
	table := append(make([]api.Slot, 0, 9), whole(t, row, g)...)
	if string(memory) != "hello##abc##" || len(row[:5][2]) != 0 {
		t.Errorf("%q", memory)
	}
	table[0].B, table[1].B = row[0], row[1]
	for i := 2; i < 4; i++ {
		table[i].B = append(make([]byte, 0, len(table[i].B)+9), table[i].B...)
	}
	was := volume.Clone(table)
	cols, there := damage.Columns(table, g)
	s, _ := damage.Find(table)
	all := damage.Known(cols, s.Sums, g)
	wasCols, wasSums, wasAll := cloned(cols), cloned(s.Sums), cloned(all)
	damage.Known(cols[:3], s.Sums, g)
	damage.Worst(all)
	if !sameTable(table, was) || string(memory) != "hello##abc##" || len(table[:9][4].B) != 0 {
		t.Errorf("%v, %q", table, memory)
	}
	for _, slot := range table[2:] {
		if n := len(slot.B); !bytes.Equal(slot.B[n:cap(slot.B)], make([]byte, cap(slot.B)-n)) {
			t.Error("something was laid behind a volume")
		}
	}
	if !slices.EqualFunc(cols, wasCols, bytes.Equal) || !slices.EqualFunc(s.Sums, wasSums, slices.Equal[[]uint32]) || !sameKnown(all, wasAll) || len(there) != 4 {
		t.Error("columns, sums, or what is known, are others")
	}
}

// cloned is rows again, in memory of their own.
func cloned[T any](rows [][]T) [][]T {
	other := make([][]T, len(rows))
	for i, row := range rows {
		other[i] = slices.Clone(row)
	}
	return other
}

// turn turns all bytes of an answer, its spare room too.
func turn(b []byte) {
	whole := b[:cap(b)]
	for i := range whole {
		whole[i] ^= 0xFF
	}
}

// apart checks that no two of some rows share memory: each is turned by itself, and the others must be as they were.
func apart[T comparable](t *testing.T, rows [][]T, turn func(row []T)) {
	t.Helper()
	for i := range rows {
		was := cloned(rows)
		turn(rows[i])
		for j := range rows {
			if i != j && !slices.Equal(rows[j], was[j]) {
				t.Fatalf("rows %d and %d share memory", i, j)
			}
		}
	}
}

// volumesOf is a table's volumes themselves.
func volumesOf(table []api.Slot) [][]byte {
	row := make([][]byte, len(table))
	for i, slot := range table {
		row[i] = slot.B
	}
	return row
}

func TestAnswersAreNew(t *testing.T) { // Rules: they share memory neither with what was handed in, nor with each other
	row, memory := roomy()
	g := stripe.Geometry{N: 2, K: 2, Size: 6, Block: 7}
	table := whole(t, row, g)
	was := volume.Clone(table)
	cols, there := damage.Columns(table, g)
	s, _ := damage.Find(table)
	all := damage.Known(cols, s.Sums, g)
	apart(t, all, func(row []bool) {
		for i := range row[:cap(row)] {
			row[:cap(row)][i] = !row[:cap(row)][i]
		}
	})
	apart(t, s.Sums, func(row []uint32) {
		for i := range row[:cap(row)] {
			row[:cap(row)][i] ^= math.MaxUint32
		}
	})
	apart(t, cols, turn)
	clear(there[:cap(there)])
	if !sameTable(table, was) {
		t.Error("columns share memory with the table")
	}
	apart(t, volumesOf(table), turn)
	clear(table[:cap(table)])
	if string(memory) != "hello##abc##" || string(row[0]) != "hello" || string(row[1]) != "abc" {
		t.Errorf("%q, %q", memory, row)
	}
	twice := [][]byte{row[0], row[0]} // one volume that is handed in twice
	apart(t, volumesOf(whole(t, twice, g)), turn)
	same := []api.Slot{{There: true, B: row[0]}, {There: true, B: row[0]}}
	cols, _ = damage.Columns(same, g)
	apart(t, cols, turn)
}

func TestWhatIsHandedInIsNotKept(t *testing.T) { // Rules
	row, memory := roomy()
	g := stripe.Geometry{N: 2, K: 2, Size: 6, Block: 7}
	want, _ := set([][]byte{[]byte("hello"), []byte("abc")}, 2, 6, 7)
	table := whole(t, row, g)
	clear(memory)
	clear(row[:cap(row)])
	if !sameTable(table, want) {
		t.Error("a table turns with what was handed in")
	}
	cols, _ := damage.Columns(table, g)
	s, _ := damage.Find(table)
	wantSums := sumsOf(cols, g.Block)
	wantCols := cloned(cols)
	for _, b := range volumesOf(table) {
		turn(b)
	}
	if !slices.EqualFunc(cols, wantCols, bytes.Equal) || !slices.EqualFunc(s.Sums, wantSums, slices.Equal[[]uint32]) {
		t.Error("columns, or a seal, turn with the table")
	}
}

func TestTheSameAgain(t *testing.T) { // P2
	row, _ := roomy()
	g := stripe.Geometry{N: 2, K: 2, Size: 6, Block: 7}
	first := whole(t, row, g)
	damage.Set(volumes(source(), 9, 40), 9, 40, 3)
	damage.Set(nil, 1, 5, 4)
	if again := whole(t, row, g); !sameTable(first, again) {
		t.Error("another table, when it's asked again")
	}
}

func TestSumsOfTheExample(t *testing.T) { // P25.1: what a head tells, byte by byte
	table := whole(t, [][]byte{{'A'}}, stripe.Geometry{N: 1, K: 1, Size: 5, Block: 13})
	col := "\x01\x00\x00\x00\x00\x00\x00\x00A\x00\x00\x00\x00"
	sum := binary.LittleEndian.AppendUint32(nil, crc32.ChecksumIEEE([]byte(col)))
	head := "FLRV\x01\x00\x01\x00\x01\x00\x00\x00\x05\x00\x00\x00\x0D\x00\x00\x00" + string(sum) + string(sum)
	end := binary.LittleEndian.AppendUint32(nil, crc32.ChecksumIEEE([]byte(head)))
	if string(table[0].B) != "A" || string(table[1].B) != head+string(end)+col {
		t.Errorf("%q, %q", table[0].B, table[1].B)
	}
}
