package little_test

import (
	"math"
	"math/rand/v2"
	"slices"
	"testing"

	"footlocker/little"
)

// source tells the same numbers in each run.
func source() *rand.Rand { return rand.New(rand.NewPCG(11, 12)) }

// some are so many bytes.
func some(r *rand.Rand, n int) []byte {
	row := make([]byte, n)
	for i := range row {
		row[i] = byte(r.IntN(256))
	}
	return row
}

// sizes are those within the bounds, and beyond either.
var sizes = []int{math.MinInt, math.MinInt64 + 1, -9, -8, -1, 0, 1, 2, 3, 4, 5, 6, 7, 8, 9, 10, 16, 64, math.MaxInt32, math.MaxInt - 1, math.MaxInt}

// numbers are those that just fit in so many bytes, those that just don't, and some between.
func numbers() []uint64 {
	all := []uint64{0, 1, 2, 255, 258, 0x0807060504030201, 0x0102030405060708, 0xFF00FF00FF00FF00, math.MaxUint64, math.MaxUint64 - 1}
	for size := range 8 {
		bound := uint64(1) << (8 * size)
		all = append(all, bound-1, bound, bound+1)
	}
	r := source()
	for range 200 {
		all = append(all, r.Uint64()>>r.IntN(64))
	}
	return all
}

// held is a size, held from 0 to 8.
func held(size int) int {
	switch {
	case size < 0:
		return 0
	case size > 8:
		return 8
	}
	return size
}

// laid is a number's lowest bytes, told by division.
func laid(n uint64, size int) []byte {
	var b []byte
	for range size {
		b = append(b, byte(n%256))
		n /= 256
	}
	return b
}

// worth is what the first eight bytes come to, the last of them being the highest.
func worth(b []byte) uint64 {
	n := uint64(0)
	for i := min(len(b), 8) - 1; i >= 0; i-- {
		n = n*256 + uint64(b[i])
	}
	return n
}

func TestPut(t *testing.T) { // P7.1
	for _, n := range numbers() {
		for _, size := range sizes {
			if got := little.Put(n, size); !slices.Equal(got, laid(n, held(size))) {
				t.Errorf("%x in %d: %v", n, size, got)
			}
		}
	}
	if got := little.Put(258, 2); !slices.Equal(got, []byte{2, 1}) {
		t.Errorf("the example: %v", got)
	}
}

func TestPutIsNewMemory(t *testing.T) { // Rules
	for size := range 9 {
		a := little.Put(math.MaxUint64, size)
		b := little.Put(math.MaxUint64, size)
		clear(a[:cap(a)])
		if !slices.Equal(b, laid(math.MaxUint64, size)) || !slices.Equal(little.Put(math.MaxUint64, size), b) {
			t.Errorf("of %d bytes", size)
		}
	}
}

func TestGet(t *testing.T) { // P7.1
	for _, c := range []struct {
		b    []byte
		want uint64
	}{
		{nil, 0},
		{[]byte{}, 0},
		{[]byte{7}, 7},
		{[]byte{2, 1}, 258},
		{[]byte{0, 0, 1}, 65536},
		{[]byte{1, 0, 0}, 1},
		{[]byte{0, 0, 0, 0, 0, 0, 0, 128}, 1 << 63},
		{[]byte{255, 255, 255, 255, 255, 255, 255, 255}, math.MaxUint64},
		{[]byte{1, 0, 0, 0, 0, 0, 0, 0, 9}, 1},
		{[]byte{1, 2, 3, 4, 5, 6, 7, 8, 9, 10}, 0x0807060504030201},
	} {
		if got := little.Get(c.b); got != c.want {
			t.Errorf("%v: %x, not %x", c.b, got, c.want)
		}
	}
	r := source()
	for n := range 20 {
		for range 50 {
			if b := some(r, n); little.Get(b) != worth(b) {
				t.Errorf("%v: %x", b, little.Get(b))
			}
		}
	}
}

func TestFits(t *testing.T) { // P7.1
	for _, n := range numbers() {
		for _, size := range sizes {
			want := size > 7 || worth(laid(n, held(size))) == n
			if got := little.Fits(n, size); got != want {
				t.Errorf("%x in %d: %v", n, size, got)
			}
		}
	}
	for size := range 8 {
		bound := uint64(1) << (8 * size)
		if !little.Fits(bound-1, size) || little.Fits(bound, size) {
			t.Errorf("the bound of %d", size)
		}
	}
	for _, size := range []int{0, -1, math.MinInt} {
		if !little.Fits(0, size) || little.Fits(1, size) || little.Fits(256, size) || little.Fits(math.MaxUint64, size) {
			t.Errorf("of a size of %d other than just 0 fits", size)
		}
	}
	for _, size := range []int{8, 9, math.MaxInt} {
		if !little.Fits(math.MaxUint64, size) {
			t.Errorf("of a size of %d not all fits", size)
		}
	}
}

func TestWhatIsPutIsGot(t *testing.T) { // P7.2
	for _, n := range numbers() {
		for _, size := range sizes {
			b := little.Put(n, size)
			r := little.Read(b)
			if little.Fits(n, size) && (little.Get(b) != n || r.Num(size) != n || r.Left() != 0 || r.Short()) {
				t.Errorf("%x in %d", n, size)
			}
			if !little.Fits(n, size) && little.Get(b) == n {
				t.Errorf("%x doesn't fit in %d, yet is got", n, size)
			}
		}
	}
}

// model is a reader by the chapter's words.
type model struct {
	left  []byte
	at    int
	short bool
}

// take is the next bytes, or none.
func (m *model) take(n int) []byte {
	if n < 0 {
		n = 0
	}
	if m.short || n > len(m.left) {
		m.short = true
		return nil
	}
	b := m.left[:n]
	m.left, m.at = m.left[n:], m.at+n
	return b
}

// call asks a reader and its model the same, and tells whether they agree.
type call struct {
	name string
	ask  func(r *little.Reader, m *model) bool
}

func num(name string, size int) call {
	return call{name, func(r *little.Reader, m *model) bool { return r.Num(size) == worth(m.take(held(size))) }}
}

func bytesOf(name string, n int) call {
	return call{name, func(r *little.Reader, m *model) bool { return slices.Equal(r.Bytes(n), m.take(n)) }}
}

// calls are all that a reader may be asked, in the sizes that matter.
var calls = []call{
	num("Num below 0", -1), num("Num 0", 0), num("Num 1", 1), num("Num 2", 2), num("Num 8", 8), num("Num 9", 9),
	num("Num greatest", math.MaxInt), num("Num least", math.MinInt),
	bytesOf("Bytes below 0", -1), bytesOf("Bytes 0", 0), bytesOf("Bytes 1", 1), bytesOf("Bytes 3", 3), bytesOf("Bytes 9", 9),
	bytesOf("Bytes greatest", math.MaxInt), bytesOf("Bytes least", math.MinInt),
	{"Bytes just left", func(r *little.Reader, m *model) bool { return slices.Equal(r.Bytes(r.Left()), m.take(len(m.left))) }},
	{"Bytes one more", func(r *little.Reader, m *model) bool {
		return slices.Equal(r.Bytes(r.Left()+1), m.take(len(m.left)+1))
	}},
	{"Num just left", func(r *little.Reader, m *model) bool { return r.Num(r.Left()) == worth(m.take(held(len(m.left)))) }},
	{"Num one more", func(r *little.Reader, m *model) bool { return r.Num(r.Left()+1) == worth(m.take(held(len(m.left)+1))) }},
	{"Rest", func(r *little.Reader, m *model) bool { return slices.Equal(r.Rest(), m.take(len(m.left))) }},
}

// agree tells whether a reader tells of itself what its model does.
func agree(r *little.Reader, m *model) bool {
	return r.Left() == len(m.left) && r.At() == m.at && r.Short() == m.short
}

// follow asks calls one behind the other, and tells of the first that doesn't agree.
func follow(b []byte, order []int) string {
	r, m := little.Read(b), &model{left: b}
	if !agree(r, m) {
		return "Read"
	}
	told := ""
	for _, i := range order {
		told += calls[i].name + ", "
		if !calls[i].ask(r, m) || !agree(r, m) {
			return told
		}
	}
	return ""
}

func TestReadsInEveryOrder(t *testing.T) { // P7.1
	for n := range 12 {
		b := some(source(), n)
		for i := range calls {
			for j := range calls {
				for k := range calls {
					if told := follow(b, []int{i, j, k}); told != "" {
						t.Fatalf("%v: %s", b, told)
					}
				}
			}
		}
	}
}

func TestReadsInLongRows(t *testing.T) { // P7.1
	r := source()
	for range 3000 {
		b, order := some(r, r.IntN(60)), make([]int, 40)
		for i := range order {
			order[i] = r.IntN(len(calls))
			if r.IntN(2) == 0 {
				order[i] = r.IntN(5)
			}
		}
		if told := follow(b, order); told != "" {
			t.Fatalf("%v: %s", b, told)
		}
	}
}

func TestShortStaysShort(t *testing.T) { // P7.1
	r := little.Read([]byte{1, 2, 3, 4, 5})
	if r.Num(2) != 513 || r.Num(4) != 0 || !r.Short() || r.Left() != 3 || r.At() != 2 {
		t.Fatal("one more than is left")
	}
	for _, n := range []int{math.MinInt, -1, 0, 1, 3, 4, math.MaxInt} {
		if r.Num(n) != 0 || len(r.Bytes(n)) != 0 || len(r.Rest()) != 0 {
			t.Errorf("asked for %d, it isn't short any more", n)
		}
		if !r.Short() || r.Left() != 3 || r.At() != 2 {
			t.Errorf("asked for %d, it has read", n)
		}
	}
}

func TestNothingIsNotTooMuch(t *testing.T) { // P7.1
	for _, b := range [][]byte{nil, {}} {
		r := little.Read(b)
		if r.Num(0) != 0 || r.Num(-1) != 0 || len(r.Bytes(0)) != 0 || len(r.Bytes(-1)) != 0 || len(r.Rest()) != 0 || r.Short() {
			t.Error("nothing of nothing is short")
		}
		if r.Num(1) != 0 || !r.Short() {
			t.Error("one of nothing isn't short")
		}
	}
}

func TestReaderNeitherTurnsNorKeeps(t *testing.T) { // P2
	room := []byte{1, 2, 3, 4, 5, 6, 7, 8, 9}
	r := little.Read(room[:6])
	got, rest := r.Bytes(2), []byte(nil)
	if r.Num(1) != 3 {
		t.Error("Num")
	}
	clear(room[:6])
	if !slices.Equal(got, []byte{1, 2}) {
		t.Error("an answer shares memory with what was handed in")
	}
	got = append(got, 77, 77, 77)
	got[0] = 77
	if rest = r.Rest(); !slices.Equal(rest, []byte{4, 5, 6}) {
		t.Errorf("what was handed in is kept, or what was answered: %v", rest)
	}
	if !slices.Equal(room, []byte{0, 0, 0, 0, 0, 0, 7, 8, 9}) {
		t.Error("what was handed in is turned")
	}
}

func TestReadersDoNotHeedEachOther(t *testing.T) { // P2
	b := []byte{1, 2, 3, 4}
	first, second := little.Read(b), little.Read(b)
	if first.Num(9) != 0 || !first.Short() || second.Short() || second.Num(4) != 0x04030201 || second.Left() != 0 || first.Left() != 4 {
		t.Error("they do")
	}
}
