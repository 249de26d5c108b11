package stripe_test

import (
	"bytes"
	"math"
	"slices"
	"testing"

	"footlocker/api"
	"footlocker/stripe"
	"footlocker/systematic"
)

func TestTheExample(t *testing.T) { // P23.1
	if col, e := stripe.Column([]byte("ab"), 5); string(col) != "\x02\x00\x00\x00\x00\x00\x00\x00ab\x00\x00\x00" || e != api.OK {
		t.Errorf("%q, %d", col, e)
	}
}

func TestRight(t *testing.T) { // P23.1
	met := map[bool]int{}
	geometries(func(g stripe.Geometry) {
		if stripe.Right(g) != right(g) {
			t.Fatalf("%+v: %v", g, stripe.Right(g))
		}
		met[right(g)]++
	})
	if met[true] < 1000 || met[false] < 1000 {
		t.Errorf("%v", met)
	}
}

func TestLong(t *testing.T) { // P23.1
	geometries(func(g stripe.Geometry) {
		want := 0
		if right(g) {
			want = g.Size + 8
		}
		if n := stripe.Long(g); n != want {
			t.Fatalf("%+v: %d, not %d", g, n, want)
		}
	})
}

func TestBlocks(t *testing.T) { // P23.1
	for size := 5; size < 40; size++ {
		for block := 1; block < 60; block++ {
			blocks := slices.Collect(slices.Chunk(make([]byte, size+8), block))
			if n := stripe.Blocks(stripe.Geometry{N: 1, Size: size, Block: block}); n != len(blocks) {
				t.Fatalf("%d bytes, and 8, by %d: %d, not %d", size, block, n, len(blocks))
			}
		}
	}
	geometries(func(g stripe.Geometry) { // just those that can be: the blocks before the last are whole, and that has at least a byte
		n := stripe.Blocks(g)
		if right(g) && (n < 1 || (n-1)*g.Block >= g.Size+8 || n*g.Block < g.Size+8) || !right(g) && n != 0 {
			t.Fatalf("%+v: %d", g, n)
		}
	})
}

func TestBlocksOfGreatColumns(t *testing.T) { // P23.1
	for _, c := range [][3]int{
		{maxVolume, 1, maxVolume + 8}, {maxVolume, 2, maxVolume/2 + 4}, {maxVolume, 8, maxVolume/8 + 1},
		{maxVolume, maxVolume, 2}, {maxVolume, maxVolume - 1, 2}, {maxVolume - 8, maxVolume, 1}, {maxVolume - 7, maxVolume, 2}, {5, maxVolume, 1},
	} {
		if n := stripe.Blocks(stripe.Geometry{N: 255, Size: c[0], Block: c[1]}); n != c[2] {
			t.Errorf("%v: %d", c, n)
		}
	}
}

func TestColumn(t *testing.T) { // P23.1
	met := map[api.Errno]int{}
	for _, size := range append([]int{9, 10, 11, 254, 257, 300}, sizes...) {
		for _, n := range []int{0, 1, 2, 4, 5, 6, 7, 8, 9, 12, 13, 254, 255, 256, 257, 299, 300, 301} {
			b := bytes.Repeat([]byte{'a'}, n)
			col, e := stripe.Column(b, size)
			want, wanted := column(b, min(size, maxVolume+1))
			if !bytes.Equal(col, want) || e != wanted || e != api.OK && col != nil {
				t.Fatalf("%d bytes of %d: %d bytes, %d", n, size, len(col), e)
			}
			met[e]++
		}
	}
	for _, e := range []api.Errno{api.OK, api.ErrArg, api.ErrLong} {
		if met[e] == 0 {
			t.Errorf("%d wasn't met", e)
		}
	}
}

func TestColumnErrors(t *testing.T) { // P23.1, P1
	for _, c := range []struct {
		n, size int
		want    api.Errno
	}{
		{6, 5, api.ErrLong},
		{5, 5, api.OK},
		{5, 4, api.ErrArg}, // it has more bytes, too
		{0, 4, api.ErrArg},
		{4, 4, api.ErrArg},
		{0, 5, api.OK},
		{maxVolume, maxVolume, api.OK},
		{maxVolume + 1, maxVolume, api.ErrLong},
		{maxVolume + 1, maxVolume + 1, api.ErrArg},
		{maxVolume + 2, maxVolume + 1, api.ErrArg},
		{0, maxVolume + 1, api.ErrArg},
		{0, math.MaxInt, api.ErrArg},
		{1, math.MinInt, api.ErrArg},
		{1, 0, api.ErrArg},
	} {
		col, e := stripe.Column(make([]byte, c.n), c.size)
		if e != c.want || e != api.OK && col != nil || e == api.OK && len(col) != c.size+8 {
			t.Errorf("%d of %d: %d bytes, %d", c.n, c.size, len(col), e)
		}
	}
}

// heldVolume checks what Volume answers against the chapter's words, and tells its error.
func heldVolume(t *testing.T, col []byte) api.Errno {
	t.Helper()
	want, wanted := volume(col)
	b, e := stripe.Volume(col)
	if !bytes.Equal(b, want) || e != wanted || e != api.OK && b != nil {
		t.Fatalf("%v: %v, %d, not %v, %d", col, b, e, want, wanted)
	}
	return e
}

func TestVolume(t *testing.T) { // P23.1
	met := map[api.Errno]int{}
	for long := 8; long < 16; long++ {
		for told := range 256 { // one of the first bytes, and behind them a byte somewhere, or none
			for place := range 8 {
				for other := 8; other <= long; other++ {
					col := make([]byte, long+1)
					col[place] = byte(told)
					col[other] = 0x80
					met[heldVolume(t, col[:long])]++
				}
			}
		}
	}
	for _, e := range []api.Errno{api.OK, api.ErrRange, api.ErrForm} {
		if met[e] == 0 {
			t.Errorf("%d wasn't met", e)
		}
	}
	for long := range 8 {
		for _, v := range []byte{0, 1, 255} {
			if e := heldVolume(t, bytes.Repeat([]byte{v}, long)); e != api.ErrShort {
				t.Errorf("%d bytes: %d", long, e)
			}
		}
	}
}

func TestVolumesWithNoughts(t *testing.T) { // P23.1, P23.2: a nought may be the volume's, or one that stands behind it
	for _, c := range []struct {
		col  string
		want string
		e    api.Errno
	}{
		{"\x03\x00\x00\x00\x00\x00\x00\x00ab\x00\x00\x00", "ab\x00", api.OK},
		{"\x05\x00\x00\x00\x00\x00\x00\x00\x00\x00\x00\x00\x00", "\x00\x00\x00\x00\x00", api.OK},
		{"\x00\x00\x00\x00\x00\x00\x00\x00\x00\x00\x00\x00\x00", "", api.OK},
		{"\x00\x00\x00\x00\x00\x00\x00\x00", "", api.OK},
		{"\x01\x00\x00\x00\x00\x00\x00\x00", "", api.ErrRange},
		{"\x01\x00\x00\x00\x00\x00\x00\x00ab\x00\x00\x00", "", api.ErrForm},
		{"\x04\x00\x00\x00\x00\x00\x00\x00abcde", "", api.ErrForm},
		{"\x06\x00\x00\x00\x00\x00\x00\x00abcde", "", api.ErrRange},
		{"\x02\x00\x00\x00\x00\x00\x00\x80ab\x00\x00\x01", "", api.ErrRange}, // ahead of the byte that isn't 0
		{"\xFF\xFF\xFF\xFF\xFF\xFF\xFF\xFFab\x00\x00\x00", "", api.ErrRange}, // -1, if it had a sign
		{"\x02\x00\x00\x00\x01\x00\x00\x00ab\x00\x00\x00", "", api.ErrRange}, // 2 by its lowest four bytes alone
		{"\x01\x01\x00\x00\x00\x00\x00\x00" + "a", "", api.ErrRange},         // 1 by its lowest one
		{"\x02\x00\x00\x00\x00\x00\x00", "", api.ErrShort},                   // a byte is missing
		{"", "", api.ErrShort}, // all are
		{"\x02\x00\x00\x00\x00\x00\x00\x00ab\x00\x00\x00\x00\x00\x00\x01", "", api.ErrForm}, // the last one of all
	} {
		if b, e := stripe.Volume([]byte(c.col)); string(b) != c.want || e != c.e || e != api.OK && b != nil {
			t.Errorf("%q: %q, %d", c.col, b, e)
		}
	}
}

func TestVolumeEndsWithItsColumn(t *testing.T) { // P23.1: what stands behind the column isn't looked at
	memory := []byte("\x02\x00\x00\x00\x00\x00\x00\x00ab\x00\x00\x00c")
	if b, e := stripe.Volume(memory[:13]); string(b) != "ab" || e != api.OK {
		t.Errorf("%q, %d", b, e)
	}
	if b, e := stripe.Volume(memory[:9]); b != nil || e != api.ErrRange {
		t.Errorf("%q, %d", b, e)
	}
	if b, e := stripe.Volume(memory[:7]); b != nil || e != api.ErrShort {
		t.Errorf("%q, %d", b, e)
	}
}

func TestColumnsAndBack(t *testing.T) { // P23.2, P3
	r := source()
	for size := 5; size < 300; size++ {
		for _, n := range []int{0, 1, size / 2, size - 1, size, r.IntN(size + 1)} {
			b := columns(r, 1, n)[0]
			if n > 2 {
				b[n-1], b[n-2] = 0, 0
			}
			col, e := stripe.Column(b, size)
			back, f := stripe.Volume(col)
			if !bytes.Equal(back, b) || e != api.OK || f != api.OK {
				t.Fatalf("%v, %d: %v, %d, and %v, %d", b, size, col, e, back, f)
			}
		}
	}
	b := columns(r, 1, maxVolume)[0]
	for _, n := range []int{maxVolume, maxVolume - 1, 1 << 16, 0} {
		col, _ := stripe.Column(b[:n], maxVolume)
		if back, e := stripe.Volume(col); len(col) != maxVolume+8 || !bytes.Equal(back, b[:n]) || e != api.OK {
			t.Errorf("%d bytes: %d, %d", n, len(back), e)
		}
	}
}

func TestParityOfTwo(t *testing.T) { // P23.1: a row of 5, 7 goes on with 1, 3
	follow, e := stripe.Parity([][]byte{{5, 0, 5}, {7, 0, 7}}, 2)
	if e != api.OK || len(follow) != 2 || !bytes.Equal(follow[0], []byte{1, 0, 1}) || !bytes.Equal(follow[1], []byte{3, 0, 3}) {
		t.Errorf("%v, %d", follow, e)
	}
	long := [][]byte{bytes.Repeat([]byte{5}, 1000), bytes.Repeat([]byte{7}, 1000)}
	follow, e = stripe.Parity(long, 2)
	if e != api.OK || len(follow) != 2 || !bytes.Equal(follow[0], bytes.Repeat([]byte{1}, 1000)) || !bytes.Equal(follow[1], bytes.Repeat([]byte{3}, 1000)) {
		t.Errorf("%d columns, %d", len(follow), e)
	}
}

func TestParity(t *testing.T) { // P23.1, P23.2: all lengths about those at which it's told another way, if it is
	r := source()
	for _, n := range []int{1, 2, 3, 5, 8, 17} {
		for _, k := range []int{0, 1, 2, 3, 7, 12} {
			for _, long := range []int{0, 1, 2, 13, 4 * n, 8*n - 1, 8 * n, 8*n + 1, 9 * n, 16*n + 1, 300} {
				cols := columns(r, n, long)
				follow, e := stripe.Parity(cols, k)
				if e != api.OK {
					t.Fatalf("%d columns of %d bytes, and %d: %d", n, long, k, e)
				}
				follows(t, cols, follow, k, upTo(long))
			}
		}
	}
}

func TestParityOfAllBytes(t *testing.T) { // P23.1, P23.2
	var all []byte
	for v := range 256 {
		all = append(all, byte(v))
	}
	for n := 1; n < 6; n++ {
		for i := range n {
			cols := make([][]byte, n)
			for j := range cols {
				cols[j] = make([]byte, 256)
			}
			copy(cols[i], all)
			follow, _ := stripe.Parity(cols, 4)
			follows(t, cols, follow, 4, upTo(256))
		}
	}
}

func TestParityOfMany(t *testing.T) { // P23.1, P23.2
	r := source()
	for _, c := range [][3]int{{1, 254, 20}, {2, 253, 5}, {254, 1, 13}, {255, 0, 13}, {128, 127, 9}, {100, 155, 13}, {120, 1, 961}, {1, 254, 9}, {255, 0, 5000}, {60, 195, 490}} {
		n, k, long := c[0], c[1], c[2]
		cols := columns(r, n, long)
		follow, e := stripe.Parity(cols, k)
		if e != api.OK {
			t.Fatalf("%v: %d", c, e)
		}
		rows := upTo(long)
		if long > 20 {
			rows = []int{0, 1, long / 2, long - 2, long - 1}
		}
		follows(t, cols, follow, k, rows)
	}
}

func TestParityOfGreatColumns(t *testing.T) { // P23.1, P23.2
	long := maxVolume + 8
	cols := columns(source(), 2, long)
	follow, e := stripe.Parity(cols, 2)
	if e != api.OK {
		t.Fatal(e)
	}
	var rows []int
	for at := 0; at < long; at += 997 {
		rows = append(rows, at)
	}
	follows(t, cols, follow, 2, append(rows, long-1))
}

func TestParityErrors(t *testing.T) { // P23.1, P1
	same := func(n, long int) [][]byte {
		cols := make([][]byte, n)
		for i := range cols {
			cols[i] = make([]byte, long)
		}
		return cols
	}
	unlike := func(n, at int) [][]byte {
		cols := same(n, 3)
		cols[at] = make([]byte, 2)
		return cols
	}
	for i, c := range []struct {
		cols [][]byte
		k    int
		want api.Errno
	}{
		{nil, 0, api.ErrArg},
		{nil, 1, api.ErrArg},
		{nil, 256, api.ErrArg}, // too many, too
		{[][]byte{}, 1, api.ErrArg},
		{same(1, 3), -1, api.ErrArg},
		{same(1, 3), math.MinInt, api.ErrArg},
		{same(256, 3), -1, api.ErrArg}, // too many, too
		{same(1, 3), 0, api.OK},
		{same(1, 3), 254, api.OK},
		{same(1, 3), 255, api.ErrMany},
		{same(1, 3), 256, api.ErrMany},
		{same(1, 3), math.MaxInt, api.ErrMany},
		{same(255, 3), math.MaxInt, api.ErrMany},
		{same(255, 3), 0, api.OK},
		{same(255, 3), 1, api.ErrMany},
		{same(256, 3), 0, api.ErrMany},
		{same(256, 3), math.MaxInt, api.ErrMany},
		{same(1000, 3), 0, api.ErrMany},
		{same(1000, 0), 0, api.ErrMany},
		{same(2, 0), 2, api.OK},
		{same(2, 0), 254, api.ErrMany},
		{unlike(2, 0), 1, api.ErrArg},
		{unlike(2, 1), 1, api.ErrArg},
		{unlike(3, 1), 0, api.ErrArg},
		{unlike(255, 254), 1, api.ErrArg}, // too many, too
		{unlike(1000, 500), 1, api.ErrArg},
		{[][]byte{{1}, nil}, 1, api.ErrArg},
		{[][]byte{nil, {1}}, 1, api.ErrArg},
		{[][]byte{nil, {}}, 1, api.OK}, // the same thing
	} {
		follow, e := stripe.Parity(c.cols, c.k)
		if e != c.want || e != parityError(c.cols, c.k) || e != api.OK && follow != nil || e == api.OK && len(follow) != c.k {
			t.Errorf("case %d: %d columns, %d", i, len(follow), e)
		}
	}
}

func TestParityOfEmptyColumns(t *testing.T) { // P23.1
	for _, k := range []int{0, 1, 3, 253} {
		follow, e := stripe.Parity([][]byte{nil, {}}, k)
		if len(follow) != k || e != api.OK {
			t.Fatalf("%d: %v, %d", k, follow, e)
		}
		for _, col := range follow {
			if len(col) != 0 {
				t.Fatalf("%d: %v", k, follow)
			}
		}
	}
}

func TestAnyColumnsTellTheOthers(t *testing.T) { // P23.2: what a codeword is for
	r := source()
	cols := columns(r, 3, 30)
	follow, _ := stripe.Parity(cols, 3)
	all := append(slices.Clone(cols), follow...)
	for lost := range 1 << 6 {
		there := make([]bool, 6)
		left := 0
		for i := range there {
			there[i] = lost>>i&1 == 0
			if there[i] {
				left++
			}
		}
		for at := range 30 {
			row := rowAt(all, at)
			word := slices.Clone(row)
			for i := range word {
				if !there[i] {
					word[i] ^= 0x55
				}
			}
			if told, e := systematic.Fill(word, there, 3); left >= 3 && (!bytes.Equal(told, row) || e != api.OK) {
				t.Fatalf("%v, row %d: %v, not %v", there, at, told, row)
			}
		}
	}
}

// roomy is two columns of so many bytes in one memory, with room behind each, and that memory.
func roomy(long int) ([][]byte, []byte) {
	memory := make([]byte, 2*long+4)
	for i := range memory {
		memory[i] = byte(i + 1)
	}
	memory[long], memory[2*long+2] = '#', '#'
	cols := [][]byte{memory[0 : long : long+2], memory[long+2 : 2*long+2 : 2*long+4]}
	return append(make([][]byte, 0, 5), cols...), memory
}

func TestWhatIsHandedInIsNotTurned(t *testing.T) { // P2
	for _, long := range []int{0, 3, 15, 16, 17, 100} {
		cols, memory := roomy(long)
		was, list := slices.Clone(memory), slices.Clone(cols[:5])
		stripe.Parity(cols, 3)
		stripe.Column(cols[0], max(long, 5))
		stripe.Column(cols[0], long+5)
		stripe.Volume(cols[1])
		if !bytes.Equal(memory, was) {
			t.Errorf("%d bytes: %v, not %v", long, memory, was)
		}
		for i, col := range cols[:5] {
			if len(col) != len(list[i]) || cap(col) != cap(list[i]) {
				t.Errorf("%d bytes: column %d is another one", long, i)
			}
		}
	}
	col := []byte("\x02\x00\x00\x00\x00\x00\x00\x00ab\x00\x00\x00#")
	stripe.Volume(col[:13])
	if string(col) != "\x02\x00\x00\x00\x00\x00\x00\x00ab\x00\x00\x00#" {
		t.Errorf("%q", col)
	}
}

// turn turns all bytes of an answer, its spare room too.
func turn(b []byte) {
	whole := b[:cap(b)]
	for i := range whole {
		whole[i] ^= 0xFF
	}
}

func TestAnswersAreNew(t *testing.T) { // Rules: they share memory neither with what was handed in, nor with each other
	for _, long := range []int{3, 16, 17, 100} {
		cols, memory := roomy(long)
		was := slices.Clone(memory)
		follow, _ := stripe.Parity(cols, 4)
		for i := range follow {
			var others [][]byte
			for j := range follow {
				others = append(others, slices.Clone(follow[j]))
			}
			turn(follow[i])
			for j := range follow {
				if i != j && !bytes.Equal(follow[j], others[j]) {
					t.Fatalf("%d bytes: columns %d and %d share memory", long, i, j)
				}
			}
		}
		clear(follow[:cap(follow)])
		if !bytes.Equal(memory, was) || len(cols[0]) != long || len(cols[1]) != long {
			t.Errorf("%d bytes: an answer shares memory with what was handed in", long)
		}
	}
	b := []byte("abcde#")
	col, _ := stripe.Column(b[:5], 5)
	was := slices.Clone(col)
	back, _ := stripe.Volume(col)
	turn(back)
	if !bytes.Equal(col, was) {
		t.Error("a volume shares memory with its column")
	}
	turn(col)
	if string(b) != "abcde#" {
		t.Error("a column shares memory with its volume")
	}
}

func TestWhatIsHandedInIsNotKept(t *testing.T) { // Rules
	for _, long := range []int{3, 100} {
		cols, memory := roomy(long)
		follow, _ := stripe.Parity(cols, 2)
		col, _ := stripe.Column(memory[:long], 100)
		back, _ := stripe.Volume(col)
		var want []string
		for _, b := range append(slices.Clone(follow), col, back) {
			want = append(want, string(b))
		}
		clear(memory)
		clear(cols[:cap(cols)])
		for i, b := range append(slices.Clone(follow), col, back) {
			if string(b) != want[i] {
				t.Errorf("%d bytes: answer %d turns with what was handed in", long, i)
			}
		}
		clear(col)
		if string(back) != want[3] {
			t.Errorf("%d bytes: a volume turns with its column", long)
		}
	}
}

func TestTheSameAgain(t *testing.T) { // P2
	cols := columns(source(), 5, 90)
	first, _ := stripe.Parity(cols, 5)
	stripe.Parity(columns(source(), 9, 20), 9)
	again, _ := stripe.Parity(cols, 5)
	if !slices.EqualFunc(first, again, bytes.Equal) {
		t.Error("other columns, when it's asked again")
	}
}
