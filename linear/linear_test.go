package linear_test

import (
	"math"
	"math/rand/v2"
	"slices"
	"testing"

	"footlocker/gf"
	"footlocker/linear"
)

// source tells the same numbers in each run.
func source() *rand.Rand { return rand.New(rand.NewPCG(3, 4)) }

// some is a matrix whose rows are often sums of others, and have noughts, so that columns without a pivot come up.
func some(r *rand.Rand, height, width int) [][]byte {
	rows := make([][]byte, height)
	for i := range rows {
		rows[i] = make([]byte, width)
		switch kind := r.IntN(5); {
		case kind == 0 && i > 0:
			copy(rows[i], gf.Scale(rows[r.IntN(i)], byte(r.IntN(256))))
		case kind == 1 && i > 1:
			for k, v := range rows[r.IntN(i)] {
				rows[i][k] = v ^ rows[0][k]
			}
		default:
			for k := range rows[i] {
				if r.IntN(3) > 0 {
					rows[i][k] = byte(r.IntN(256))
				}
			}
		}
	}
	if width > 0 && r.IntN(3) == 0 {
		col := r.IntN(width)
		for i := range rows {
			rows[i][col] = 0
		}
	}
	return rows
}

// many are matrices of all heights and widths up to some, of each more than one.
func many() [][][]byte {
	r := source()
	var all [][][]byte
	for height := range 7 {
		for width := range 7 {
			for range 12 {
				all = append(all, some(r, height, width))
			}
		}
	}
	return append(all, some(r, 40, 25), some(r, 25, 40), some(r, 60, 60), make([][]byte, 9), [][]byte{make([]byte, 50), make([]byte, 50)})
}

// wrong are rows that are no matrix.
func wrong() [][][]byte {
	return [][][]byte{
		{{1}, {}}, {{}, {1}}, {nil, {1}}, {{1, 2}, {3}}, {{1}, {2, 3}}, {{0, 0}, {0, 0}, {0}}, {{1, 0, 0}, {0, 1}, {0, 0, 1}}, {{5}, {5}, {5}, {5, 5}},
	}
}

func copied(rows [][]byte) [][]byte {
	again := make([][]byte, len(rows))
	for i, row := range rows {
		again[i] = slices.Clone(row)
	}
	return again
}

func same(a, b [][]byte) bool { return slices.EqualFunc(a, b, slices.Equal) }

func width(rows [][]byte) int {
	if len(rows) == 0 {
		return 0
	}
	return len(rows[0])
}

// reduced does what the chapter's words say, byte by byte.
func reduced(rows [][]byte, cols int) (left [][]byte, pivots []int) {
	left = copied(rows)
	next := 0
	for col := range max(0, min(cols, width(rows))) {
		up := next
		for up < len(left) && left[up][col] == 0 {
			up++
		}
		if up == len(left) {
			continue
		}
		left[next], left[up] = left[up], left[next]
		by := left[next][col]
		for k, v := range left[next] {
			left[next][k], _ = gf.Div(v, by)
		}
		for i := range left {
			often := left[i][col]
			for k := range left[i] {
				if i != next {
					left[i][k] ^= gf.Mul(often, left[next][k])
				}
			}
		}
		pivots = append(pivots, col)
		next++
	}
	return left, pivots
}

// product is one matrix times another's columns.
func product(a, b [][]byte) [][]byte {
	rows := make([][]byte, len(a))
	for i, row := range a {
		rows[i] = make([]byte, width(b))
		for k := range rows[i] {
			for m, v := range row {
				rows[i][k] ^= gf.Mul(v, b[m][k])
			}
		}
	}
	return rows
}

// ones is the matrix of 1 and 0s.
func ones(size int) [][]byte {
	rows := make([][]byte, size)
	for i := range rows {
		rows[i] = make([]byte, size)
		rows[i][i] = 1
	}
	return rows
}

// sums is what each row's products with x sum up to.
func sums(rows [][]byte, x []byte) []byte {
	right := make([]byte, len(rows))
	for i, row := range rows {
		for k, v := range row {
			right[i] ^= gf.Mul(v, x[k])
		}
	}
	return right
}

func TestRight(t *testing.T) { // P3.1
	for _, rows := range append(many(), nil, [][]byte{{}, nil, {}}, [][]byte{nil}) {
		if !linear.Right(rows) {
			t.Errorf("no matrix: %v", rows)
		}
	}
	for _, rows := range wrong() {
		if linear.Right(rows) {
			t.Errorf("a matrix: %v", rows)
		}
	}
}

func TestReduceExamples(t *testing.T) { // P3.1
	for _, c := range []struct {
		rows   [][]byte
		cols   int
		want   [][]byte
		pivots []int
	}{
		{nil, 3, nil, nil},
		{[][]byte{}, -1, nil, nil},
		{[][]byte{{}, {}}, 4, [][]byte{{}, {}}, nil},
		{[][]byte{{0, 0}, {0, 0}}, 2, [][]byte{{0, 0}, {0, 0}}, nil},
		{[][]byte{{1, 1}, {1, 2}}, 2, [][]byte{{1, 0}, {0, 1}}, []int{0, 1}},
		{[][]byte{{0, 2, 4}, {1, 1, 1}, {1, 3, 5}}, 3, [][]byte{{1, 0, 3}, {0, 1, 2}, {0, 0, 0}}, []int{0, 1}},
		{[][]byte{{0, 2, 4}, {1, 1, 1}, {1, 3, 5}}, 1, [][]byte{{1, 1, 1}, {0, 2, 4}, {0, 2, 4}}, []int{0}},
		{[][]byte{{0, 2, 4}, {1, 1, 1}, {1, 3, 5}}, 0, [][]byte{{0, 2, 4}, {1, 1, 1}, {1, 3, 5}}, nil},
		{[][]byte{{0, 1}, {0, 2}, {3, 7}}, 1, [][]byte{{1, gf.Mul(7, gf.Inv(3))}, {0, 2}, {0, 1}}, []int{0}},
		{[][]byte{{0, 0, 2, 4}}, 9, [][]byte{{0, 0, 1, 2}}, []int{2}},
		{[][]byte{{2}, {4}, {8}}, 1, [][]byte{{1}, {0}, {0}}, []int{0}},
	} {
		if got, pivots := linear.Reduce(c.rows, c.cols); !same(got, c.want) || !slices.Equal(pivots, c.pivots) {
			t.Errorf("Reduce(%v, %d) = %v, %v", c.rows, c.cols, got, pivots)
		}
	}
}

func TestReduceIsAsTheWordsSay(t *testing.T) { // P3.1: below 0 counts as 0, above all as all
	for _, rows := range many() {
		all := width(rows)
		for _, cols := range []int{math.MinInt, -1, 0, 1, 2, all - 1, all, all + 1, math.MaxInt} {
			want, wantPivots := reduced(rows, cols)
			if got, pivots := linear.Reduce(rows, cols); !same(got, want) || !slices.Equal(pivots, wantPivots) {
				t.Fatalf("Reduce(%v, %d) = %v, %v, not %v, %v", rows, cols, got, pivots, want, wantPivots)
			}
		}
		_, pivots := reduced(rows, all)
		if got := linear.Rank(rows); got != len(pivots) {
			t.Fatalf("Rank(%v) = %d, not %d", rows, got, len(pivots))
		}
	}
}

func TestTimes(t *testing.T) { // P3.1
	for _, c := range []struct {
		rows [][]byte
		x    []byte
		want []byte
	}{
		{nil, []byte{1}, nil},
		{[][]byte{{}, nil}, []byte{1}, []byte{0, 0}},
		{[][]byte{{1, 1}, {1, 2}}, []byte{2, 1}, []byte{3, 0}},
		{[][]byte{{1, 1}, {1, 2}}, nil, []byte{0, 0}},
		{[][]byte{{1, 1}, {9, 2}}, []byte{2}, []byte{2, 18}},
		{[][]byte{{1}, {1, 2}, {1, 2, 3}, {}}, []byte{0x80, 0x80}, []byte{0x80, 0x80 ^ 0x1D, 0x80 ^ 0x1D, 0}},
	} {
		if got := linear.Times(c.rows, c.x); !slices.Equal(got, c.want) {
			t.Errorf("Times(%v, %v) = %v", c.rows, c.x, got)
		}
	}
	r := source()
	for _, rows := range many() {
		x := some(r, 1, width(rows))[0]
		if got := linear.Times(rows, x); !slices.Equal(got, sums(rows, x)) {
			t.Fatalf("Times(%v, %v) = %v", rows, x, got)
		}
	}
}

func TestSolveExamples(t *testing.T) { // P3.1
	for _, c := range []struct {
		rows  [][]byte
		right []byte
		x     []byte
		ok    bool
	}{
		{[][]byte{{1, 1}, {1, 2}}, []byte{3, 0}, []byte{2, 1}, true},
		{nil, nil, nil, true},
		{nil, []byte{0}, nil, false},
		{[][]byte{}, []byte{}, nil, true},
		{[][]byte{{}, {}}, []byte{0, 0}, nil, true},
		{[][]byte{{}, {}}, []byte{0, 1}, nil, false},
		{[][]byte{{}}, nil, nil, false},
		{[][]byte{{1}}, nil, nil, false},
		{[][]byte{{1}}, []byte{1, 0}, nil, false},
		{[][]byte{{1}, {1}}, []byte{4}, nil, false},
		{[][]byte{{1}, {1}}, []byte{4, 4}, []byte{4}, true},
		{[][]byte{{1}, {1}}, []byte{4, 5}, nil, false},
		{[][]byte{{0, 2, 1}}, []byte{4}, []byte{0, 2, 0}, true},
		{[][]byte{{0, 0}}, []byte{0}, []byte{0, 0}, true},
		{[][]byte{{0, 0}}, []byte{1}, nil, false},
		{[][]byte{{0, 0, 0, 1}, {0, 1, 0, 9}}, []byte{7, 0}, []byte{0, gf.Mul(9, 7), 0, 7}, true},
	} {
		if x, ok := linear.Solve(c.rows, c.right); !slices.Equal(x, c.x) || ok != c.ok {
			t.Errorf("Solve(%v, %v) = %v, %v", c.rows, c.right, x, ok)
		}
	}
}

func TestWhatIsSolvedIsRight(t *testing.T) { // P3.2, P4
	r := source()
	for _, rows := range many() {
		x := some(r, 1, width(rows))[0]
		right := sums(rows, x)
		got, ok := linear.Solve(rows, right)
		if !ok || len(got) != len(x) || !slices.Equal(sums(rows, got), right) {
			t.Fatalf("Solve(%v, %v) = %v, %v", rows, right, got, ok)
		}
		_, pivots := reduced(rows, width(rows))
		for col, v := range got {
			if v != 0 && !slices.Contains(pivots, col) {
				t.Fatalf("Solve(%v, %v) = %v: column %d isn't a pivot's", rows, right, got, col)
			}
		}
		for _, other := range [][]byte{right[:max(0, len(right)-1)], append(slices.Clone(right), 0)} {
			if len(other) == len(rows) {
				continue
			}
			if got, ok := linear.Solve(rows, other); ok || len(got) != 0 {
				t.Fatalf("Solve(%v, %v) = %v, %v", rows, other, got, ok)
			}
		}
	}
}

// solvable tells, going through all that it could be, whether two columns come to a right side.
func solvable(rows [][]byte, right []byte) bool {
	x := make([]byte, 2)
	for x[0] = 0; ; x[0]++ {
		for x[1] = 0; ; x[1]++ {
			if slices.Equal(sums(rows, x), right) {
				return true
			}
			if x[1] == 255 {
				break
			}
		}
		if x[0] == 255 {
			return false
		}
	}
}

func TestNothingIsToldJustIfThereIsNothing(t *testing.T) { // P3.2
	r := source()
	solved, none := 0, 0
	for range 150 {
		rows := some(r, 1+r.IntN(3), 2)
		right := some(r, 1, len(rows))[0]
		want := solvable(rows, right)
		if x, ok := linear.Solve(rows, right); ok != want || !ok && len(x) != 0 || ok && !slices.Equal(sums(rows, x), right) {
			t.Fatalf("Solve(%v, %v) = %v, %v", rows, right, x, ok)
		}
		if want {
			solved++
		} else {
			none++
		}
	}
	if solved < 20 || none < 20 {
		t.Errorf("%d solved, and %d not: too few", solved, none)
	}
	for range 2000 { // a right side more makes the rank greater just if nothing comes to it
		rows := some(r, 1+r.IntN(5), 1+r.IntN(5))
		right := some(r, 1, len(rows))[0]
		both := copied(rows)
		for i := range both {
			both[i] = append(both[i], right[i])
		}
		_, pivots := reduced(rows, width(rows))
		_, more := reduced(both, width(both))
		if _, ok := linear.Solve(rows, right); ok != (len(pivots) == len(more)) {
			t.Fatalf("Solve(%v, %v) = %v", rows, right, ok)
		}
	}
}

func TestWrongRows(t *testing.T) { // P3.1: what is no matrix
	for _, rows := range wrong() {
		if got, pivots := linear.Reduce(rows, 1); len(got) != 0 || len(pivots) != 0 {
			t.Errorf("Reduce(%v) = %v, %v", rows, got, pivots)
		}
		if got := linear.Rank(rows); got != 0 {
			t.Errorf("Rank(%v) = %d", rows, got)
		}
		if got, ok := linear.Inverse(rows); ok || len(got) != 0 {
			t.Errorf("Inverse(%v) = %v, %v", rows, got, ok)
		}
		for n := range len(rows) + 2 {
			if got, ok := linear.Solve(rows, make([]byte, n)); ok || len(got) != 0 {
				t.Errorf("Solve(%v) = %v, %v", rows, got, ok)
			}
		}
	}
}

func TestInverseExamples(t *testing.T) { // P3.1
	for _, c := range []struct {
		rows, want [][]byte
		ok         bool
	}{
		{nil, nil, true},
		{[][]byte{}, nil, true},
		{[][]byte{{}}, nil, false},
		{[][]byte{{0}}, nil, false},
		{[][]byte{{1}}, [][]byte{{1}}, true},
		{[][]byte{{2}}, [][]byte{{0x8E}}, true},
		{[][]byte{{0, 2}, {1, 0}}, [][]byte{{0, 1}, {0x8E, 0}}, true},
		{[][]byte{{1, 2}}, nil, false},
		{[][]byte{{1}, {2}}, nil, false},
		{[][]byte{{1, 2}, {2, 4}}, nil, false},
		{[][]byte{{0, 2, 4}, {1, 1, 1}, {1, 3, 5}}, nil, false},
		{[][]byte{{1, 0, 0}, {0, 1, 0}}, nil, false},
		{[][]byte{{1, 0}, {0, 1}, {0, 0}}, nil, false},
	} {
		if got, ok := linear.Inverse(c.rows); !same(got, c.want) || ok != c.ok {
			t.Errorf("Inverse(%v) = %v, %v", c.rows, got, ok)
		}
	}
}

func TestAnInverseIsOneFromEitherSide(t *testing.T) { // P3.2
	r := source()
	inverses, none := 0, 0
	for size := range 12 {
		for range 60 {
			rows := some(r, size, size)
			_, pivots := reduced(rows, size)
			got, ok := linear.Inverse(rows)
			if ok != (len(pivots) == size) {
				t.Fatalf("Inverse(%v) = %v, %v", rows, got, ok)
			}
			if !ok {
				none++
				if len(got) != 0 {
					t.Fatalf("Inverse(%v) = %v", rows, got)
				}
				continue
			}
			inverses++
			if !same(product(got, rows), ones(size)) || !same(product(rows, got), ones(size)) {
				t.Fatalf("Inverse(%v) = %v", rows, got)
			}
		}
	}
	if inverses < 50 || none < 50 {
		t.Errorf("%d inverses, and %d times none: too few", inverses, none)
	}
}

func TestAnInverseIsThereJustIfRowsAreUnlike(t *testing.T) { // P3.2: of two rows that is told without reducing any
	r := source()
	for range 5000 {
		rows := some(r, 2, 2)
		unlike := gf.Mul(rows[0][0], rows[1][1]) != gf.Mul(rows[0][1], rows[1][0])
		if _, ok := linear.Inverse(rows); ok != unlike {
			t.Fatalf("Inverse(%v): %v", rows, ok)
		}
	}
}

func TestGreatMatrices(t *testing.T) { // P1, P3.2
	r := source()
	rows := make([][]byte, 255)
	for i := range rows { // each place's powers: such rows always have an inverse
		for k := range 255 {
			rows[i] = append(rows[i], gf.Pow(byte(i), k))
		}
	}
	inverse, ok := linear.Inverse(rows)
	x := some(r, 1, 255)[0]
	if !ok || !slices.Equal(sums(inverse, sums(rows, x)), x) {
		t.Error("no inverse of powers")
	}
	long := make([]byte, 1<<20)
	long[len(long)-1] = 2
	if got, pivots := linear.Reduce([][]byte{long}, math.MaxInt); !slices.Equal(pivots, []int{len(long) - 1}) || got[0][len(long)-1] != 1 {
		t.Errorf("pivots of a long row: %v", pivots)
	}
	tall := make([][]byte, 1<<16)
	for i := range tall {
		tall[i] = []byte{0, byte(i)}
	}
	if _, pivots := linear.Reduce(tall, 2); !slices.Equal(pivots, []int{1}) {
		t.Errorf("pivots of a tall matrix: %v", pivots)
	}
}

// guarded is a matrix whose rows, and list of rows, have more behind their length.
func guarded(rows [][]byte) (whole [][]byte, bytes []byte) {
	for i, row := range rows {
		for _, v := range row {
			bytes = append(bytes, v)
		}
		bytes = append(bytes, 0xA5, byte(i))
	}
	from := 0
	for _, row := range rows {
		whole = append(whole, bytes[from:from+len(row)])
		from += len(row) + 2
	}
	return append(whole, []byte{0xA5}), bytes
}

// rowsOf hands rows to each call of the package, and has all lists that they answer.
func rowsOf(rows [][]byte, right []byte) [][]byte {
	reduced, _ := linear.Reduce(rows, 2)
	x, _ := linear.Solve(rows, right)
	inverse, _ := linear.Inverse(rows)
	linear.Right(rows)
	linear.Rank(rows)
	return slices.Concat(reduced, [][]byte{x, linear.Times(rows, right)}, inverse)
}

func TestRowsAreNeitherTurnedNorKept(t *testing.T) { // P2, and the rules that hold everywhere
	for _, c := range []struct {
		rows  [][]byte
		right []byte
	}{
		{[][]byte{{0, 2, 4}, {1, 1, 1}, {1, 3, 6}}, []byte{1, 2, 3}},
		{[][]byte{{1, 1}, {1, 2}}, []byte{3, 0}},
		{[][]byte{{0, 0}, {0, 0}}, []byte{0, 0}},
		{[][]byte{{1, 0, 0}, {0, 1, 0}, {0, 0, 1}}, []byte{9, 8, 7}},
		{[][]byte{{7}}, []byte{1}},
		{[][]byte{{}, {}}, []byte{0, 0}},
	} {
		whole, bytes := guarded(c.rows)
		rows, before := whole[:len(c.rows)], slices.Clone(bytes)
		right := append(slices.Clone(c.right), 0xA5)
		first := rowsOf(rows, right[:len(c.right)])
		if !slices.Equal(bytes, before) || !same(rows, c.rows) || !slices.Equal(right, append(slices.Clone(c.right), 0xA5)) || whole[len(rows)][0] != 0xA5 {
			t.Fatalf("turned: %v, %v", whole, right)
		}
		again := rowsOf(rows, right[:len(c.right)])
		clear(bytes)
		clear(right)
		for i, row := range first {
			if !slices.Equal(row, again[i]) {
				t.Errorf("%v: answer %d was %v, and is %v", c.rows, i, again[i], row)
			}
		}
		for i, row := range first { // the room behind its length is its own, too
			room := row[:cap(row)]
			for k := range room {
				room[k] = 0xFF
			}
			for k := i + 1; k < len(first); k++ {
				if !slices.Equal(first[k], again[k]) {
					t.Errorf("%v: answers %d and %d share room", c.rows, i, k)
				}
			}
		}
		if slices.ContainsFunc(bytes, func(b byte) bool { return b != 0 }) {
			t.Errorf("%v: room is shared with an answer", c.rows)
		}
	}
}

func TestListsOfRowsAreTheirOwn(t *testing.T) { // the rules that hold everywhere
	rows := [][]byte{{1, 0}, {0, 1}}
	reduced, pivots := linear.Reduce(rows, 2)
	inverse, _ := linear.Inverse(rows)
	reduced[0], inverse[1] = nil, nil
	pivots[0] = 9
	if !same(rows, ones(2)) {
		t.Errorf("the list is kept: %v", rows)
	}
	if again, pivots := linear.Reduce(rows, 2); !same(again, ones(2)) || !slices.Equal(pivots, []int{0, 1}) {
		t.Errorf("%v, %v", again, pivots)
	}
}
