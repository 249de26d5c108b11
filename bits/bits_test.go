package bits_test

import (
	"math"
	"math/rand/v2"
	"slices"
	"testing"

	"footlocker/bits"
)

// source tells the same numbers in each run.
func source() *rand.Rand { return rand.New(rand.NewPCG(13, 14)) }

// some are so many bytes.
func some(r *rand.Rand, n int) []byte {
	row := make([]byte, n)
	for i := range row {
		row[i] = byte(r.IntN(256))
	}
	return row
}

// counts are those within the bounds, and beyond either.
var counts = []int{math.MinInt, -33, -1, 0, 1, 2, 3, 5, 7, 8, 9, 15, 16, 17, 24, 31, 32, 33, 64, math.MaxInt}

// held is how many bits, held from 0 to 32.
func held(n int) int {
	switch {
	case n < 0:
		return 0
	case n > 32:
		return 32
	}
	return n
}

// row is bits by the chapter's words, one behind the other.
type row []bool

// put is a row, and a number's lowest bits, told by division, the lowest one first.
func (w row) put(v uint32, n int) row {
	for range held(n) {
		w = append(w, v%2 == 1)
		v /= 2
	}
	return w
}

// code is a row, and a number's lowest bits, the highest one first.
func (w row) code(v uint32, n int) row {
	turned := row(nil).put(v, n)
	slices.Reverse(turned)
	return append(w, turned...)
}

// align is a row, and noughts up to a byte's end.
func (w row) align() row {
	for len(w)%8 != 0 {
		w = append(w, false)
	}
	return w
}

// bytes is a row, and bytes behind a byte's end.
func (w row) bytes(b []byte) row {
	w = w.align()
	for _, v := range b {
		w = w.put(uint32(v), 8)
	}
	return w
}

// worth is the number of bits, the lowest one first.
func (w row) worth() uint32 {
	v := uint32(0)
	for _, bit := range slices.Backward(w) {
		v *= 2
		if bit {
			v++
		}
	}
	return v
}

// done is all bytes.
func (w row) done() []byte {
	var b []byte
	for byteOf := range slices.Chunk(w, 8) {
		b = append(b, byte(byteOf.worth()))
	}
	return b
}

// write puts the same to a writer and to a row.
type write struct {
	name string
	put  func(w *bits.Writer, m row) row
}

func putOf(name string, v uint32, n int) write {
	return write{name, func(w *bits.Writer, m row) row { w.Put(v, n); return m.put(v, n) }}
}

func codeOf(name string, v uint32, n int) write {
	return write{name, func(w *bits.Writer, m row) row { w.Code(v, n); return m.code(v, n) }}
}

func bytesOf(name string, b []byte) write {
	return write{name, func(w *bits.Writer, m row) row { w.Bytes(b); return m.bytes(b) }}
}

// writes are all that may be put, in the sizes that matter.
var writes = []write{
	putOf("Put 1", 1, 1), putOf("Put 0 in 1", 0, 1), putOf("Put 5", 0b10110, 5), putOf("Put more than fits", 0xFFFFFFFF, 3),
	putOf("Put 8", 0xA7, 8), putOf("Put 0", 0xFFFFFFFF, 0), putOf("Put below 0", 0xFFFFFFFF, -1), putOf("Put 32", 0x89ABCDE7, 32), putOf("Put above 32", 0x89ABCDE7, 33),
	codeOf("Code 1", 1, 1), codeOf("Code 3", 0b001, 3), codeOf("Code more than fits", 0xFFFFFFF6, 4), codeOf("Code 0", 0xFFFFFFFF, 0),
	codeOf("Code below 0", 0xFFFFFFFF, math.MinInt), codeOf("Code 32", 0x89ABCDE7, 32), codeOf("Code above 32", 0x89ABCDE7, math.MaxInt), codeOf("Code 9", 0b101101001, 9),
	{"Align", func(w *bits.Writer, m row) row { w.Align(); return m.align() }},
	bytesOf("Bytes of none", nil), bytesOf("Bytes", []byte{0xC3, 0x5A}),
}

// sameRow tells whether a writer has a row's bits, asked twice: Done doesn't end it.
func sameRow(w *bits.Writer, m row) bool {
	return w.Len() == len(m) && slices.Equal(w.Done(), m.done()) && w.Len() == len(m) && slices.Equal(w.Done(), m.done())
}

// followWrites puts one behind the other, and tells of the first that doesn't agree.
func followWrites(order []int) string {
	var w bits.Writer
	var m row
	told := ""
	for _, i := range order {
		told += writes[i].name + ", "
		m = writes[i].put(&w, m)
		if !sameRow(&w, m) {
			return told
		}
	}
	return ""
}

func TestTheExample(t *testing.T) { // P8.1
	var w bits.Writer
	w.Put(1, 1)
	w.Put(2, 2)
	w.Code(1, 3)
	if got := w.Done(); !slices.Equal(got, []byte{0x25}) || w.Len() != 6 {
		t.Errorf("%x, %d bits", got, w.Len())
	}
}

func TestTheZeroWriter(t *testing.T) { // P8.1
	var w bits.Writer
	if w.Len() != 0 || len(w.Done()) != 0 {
		t.Error("it has bits")
	}
	w.Align()
	w.Bytes(nil)
	w.Bytes([]byte{})
	w.Put(7, 0)
	w.Code(7, -7)
	if w.Len() != 0 || len(w.Done()) != 0 {
		t.Error("it has bits, though none were put")
	}
}

func TestPutsOfEachCount(t *testing.T) { // P8.1
	for _, ahead := range []int{0, 1, 4, 7, 8, 11} {
		for _, n := range counts {
			for _, v := range []uint32{0, 1, 0x80000000, 0x12345678, 0xFEDCBA98, math.MaxUint32} {
				var w bits.Writer
				w.Put(0x555, ahead)
				w.Put(v, n)
				if !sameRow(&w, row(nil).put(0x555, ahead).put(v, n)) {
					t.Errorf("Put(%x, %d) behind %d: %x", v, n, ahead, w.Done())
				}
				var c bits.Writer
				c.Put(0x555, ahead)
				c.Code(v, n)
				if !sameRow(&c, row(nil).put(0x555, ahead).code(v, n)) {
					t.Errorf("Code(%x, %d) behind %d: %x", v, n, ahead, c.Done())
				}
			}
		}
	}
}

func TestWritesInEveryOrder(t *testing.T) { // P8.1
	for i := range writes {
		for j := range writes {
			for k := range writes {
				if told := followWrites([]int{i, j, k}); told != "" {
					t.Fatal(told)
				}
			}
		}
	}
}

func TestWritesInLongRows(t *testing.T) { // P8.1
	r := source()
	for range 300 {
		order := make([]int, 60)
		for i := range order {
			order[i] = r.IntN(len(writes))
		}
		if told := followWrites(order); told != "" {
			t.Fatal(told)
		}
	}
}

func TestWriterNeitherTurnsNorKeeps(t *testing.T) { // P2
	room := []byte{1, 2, 3, 4}
	var w bits.Writer
	w.Put(1, 1)
	w.Bytes(room[:2])
	if !slices.Equal(room, []byte{1, 2, 3, 4}) {
		t.Error("what was handed in is turned")
	}
	room[0], room[1] = 77, 77
	done := w.Done()
	if !slices.Equal(done, []byte{1, 1, 2}) {
		t.Errorf("what was handed in is kept: %v", done)
	}
	w.Put(1, 1)
	if !slices.Equal(done, []byte{1, 1, 2}) {
		t.Error("what was answered is turned by what is put behind it")
	}
	spare := done[:cap(done)]
	for i := range spare {
		spare[i] = 0xEE
	}
	w.Put(0, 1)
	if got := w.Done(); !slices.Equal(got, []byte{1, 1, 2, 1}) {
		t.Errorf("what was answered is kept: %v", got)
	}
}

func TestWritersDoNotHeedEachOther(t *testing.T) { // P2
	var first, second bits.Writer
	first.Put(7, 3)
	second.Bytes([]byte{9})
	first.Put(1, 1)
	if !slices.Equal(first.Done(), []byte{15}) || !slices.Equal(second.Done(), []byte{9}) {
		t.Error("they do")
	}
}

// model is a reader by the chapter's words.
type model struct {
	left row
	at   int
}

// pass goes over so many bits.
func (m *model) pass(n int) row {
	w := m.left[:n]
	m.left, m.at = m.left[n:], m.at+n
	return w
}

func (m *model) get(n int) (uint32, bool) {
	if held(n) > len(m.left) {
		return 0, false
	}
	return m.pass(held(n)).worth(), true
}

// align passes over the rest of a byte that was begun: as the whole is bytes, what is left of it is what doesn't make a byte.
func (m *model) align() { m.pass(len(m.left) % 8) }

func (m *model) bytes(n int) ([]byte, bool) {
	m.align()
	if n < 0 {
		n = 0
	}
	if n > len(m.left)/8 {
		return nil, false
	}
	return m.pass(8 * n).done(), true
}

// read asks a reader and its model the same, and tells whether they agree.
type read struct {
	name string
	ask  func(r *bits.Reader, m *model) bool
}

// sameGet tells whether both get the same.
func sameGet(r *bits.Reader, m *model, n int) bool {
	want, ok := m.get(n)
	got, can := r.Get(n)
	return got == want && can == ok
}

// sameBytes tells whether both have the same bytes.
func sameBytes(r *bits.Reader, m *model, n int) bool {
	want, ok := m.bytes(n)
	got, can := r.Bytes(n)
	return slices.Equal(got, want) && can == ok
}

func getOf(name string, n int) read {
	return read{name, func(r *bits.Reader, m *model) bool { return sameGet(r, m, n) }}
}

func readBytes(name string, n int) read {
	return read{name, func(r *bits.Reader, m *model) bool { return sameBytes(r, m, n) }}
}

// reads are all that may be asked, in the sizes that matter.
var reads = []read{
	getOf("Get 0", 0), getOf("Get below 0", -1), getOf("Get least", math.MinInt), getOf("Get 1", 1), getOf("Get 3", 3), getOf("Get 8", 8), getOf("Get 13", 13),
	getOf("Get 32", 32), getOf("Get 33", 33), getOf("Get greatest", math.MaxInt),
	{"Get just left", func(r *bits.Reader, m *model) bool { return sameGet(r, m, len(m.left)) }},
	{"Get one more", func(r *bits.Reader, m *model) bool { return sameGet(r, m, len(m.left)+1) }},
	{"Bit", func(r *bits.Reader, m *model) bool {
		want, ok := m.get(1)
		got, can := r.Bit()
		return got == want && can == ok
	}},
	{"Align", func(r *bits.Reader, m *model) bool { r.Align(); m.align(); return true }},
	readBytes("Bytes 0", 0), readBytes("Bytes below 0", -1), readBytes("Bytes least", math.MinInt), readBytes("Bytes 1", 1), readBytes("Bytes 2", 2), readBytes("Bytes greatest", math.MaxInt),
	{"Bytes just left", func(r *bits.Reader, m *model) bool { return sameBytes(r, m, len(m.left)/8) }},
	{"Bytes one more", func(r *bits.Reader, m *model) bool { return sameBytes(r, m, len(m.left)/8+1) }},
}

// followReads asks one behind the other, and tells of the first that doesn't agree.
func followReads(b []byte, order []int) string {
	r, m := bits.Read(b), &model{left: row(nil).bytes(b)}
	if r.At() != 0 {
		return "Read"
	}
	told := ""
	for _, i := range order {
		told += reads[i].name + ", "
		if !reads[i].ask(r, m) || r.At() != m.at {
			return told
		}
	}
	return ""
}

func TestReadsInEveryOrder(t *testing.T) { // P8.1
	for n := range 7 {
		b := some(source(), n)
		for i := range reads {
			for j := range reads {
				for k := range reads {
					if told := followReads(b, []int{i, j, k}); told != "" {
						t.Fatalf("%v: %s", b, told)
					}
				}
			}
		}
	}
}

func TestReadsInLongRows(t *testing.T) { // P8.1
	r := source()
	for range 2000 {
		b, order := some(r, r.IntN(80)), make([]int, 50)
		for i := range order {
			order[i] = r.IntN(len(reads))
		}
		if told := followReads(b, order); told != "" {
			t.Fatalf("%v: %s", b, told)
		}
	}
}

func TestFewerAreLeft(t *testing.T) { // P8.1
	r := bits.Read([]byte{0x25, 0x03, 0xAA})
	if v, ok := r.Get(4); v != 5 || !ok {
		t.Fatal("Get")
	}
	for _, n := range []int{21, 32, 33, math.MaxInt} {
		if v, ok := r.Get(n); v != 0 || ok || r.At() != 4 {
			t.Errorf("%d of 20 bits: %d, %v, at %d", n, v, ok, r.At())
		}
	}
	if b, ok := r.Bytes(3); len(b) != 0 || ok || r.At() != 8 {
		t.Errorf("3 of 2 bytes: %v, %v, at %d", b, ok, r.At())
	}
	if v, ok := r.Get(16); v != 0xAA03 || !ok || r.At() != 24 {
		t.Errorf("just what is left: %x, %v", v, ok)
	}
	if v, ok := r.Bit(); v != 0 || ok || r.At() != 24 {
		t.Error("a bit behind the end")
	}
	if v, ok := r.Get(0); v != 0 || !ok {
		t.Error("no bits behind the end")
	}
	if b, ok := r.Bytes(0); len(b) != 0 || !ok {
		t.Error("no bytes behind the end")
	}
	r.Align()
	if r.At() != 24 {
		t.Error("a byte's end behind the end")
	}
}

func TestReaderNeitherTurnsNorKeeps(t *testing.T) { // P2
	room := []byte{1, 2, 3, 4, 5, 6}
	r := bits.Read(room[:4])
	got, ok := r.Bytes(2)
	clear(room[:4])
	if !ok || !slices.Equal(got, []byte{1, 2}) {
		t.Error("an answer shares memory with what was handed in")
	}
	got = append(got, 77, 77)
	got[0] = 77
	if rest, ok := r.Bytes(2); !ok || !slices.Equal(rest, []byte{3, 4}) {
		t.Errorf("what was handed in is kept, or what was answered: %v", rest)
	}
	if !slices.Equal(room, []byte{0, 0, 0, 0, 5, 6}) {
		t.Error("what was handed in is turned")
	}
}

func TestReadersDoNotHeedEachOther(t *testing.T) { // P2
	b := []byte{0xF0, 0x0F}
	first, second := bits.Read(b), bits.Read(b)
	first.Get(12)
	if v, ok := second.Get(16); v != 0x0FF0 || !ok || first.At() != 12 || second.At() != 16 {
		t.Error("they do")
	}
}

// item is what is put, to be got again.
type item struct {
	kind, n int // kind 0 is a number, 1 a code, 2 a byte's end, 3 bytes
	v       uint32
	b       []byte
}

// mixed are items, one behind the other.
func mixed(r *rand.Rand, count int) []item {
	items := make([]item, count)
	for i := range items {
		items[i] = item{r.IntN(4), r.IntN(33), r.Uint32(), some(r, r.IntN(4))}
	}
	return items
}

func putItem(w *bits.Writer, x item) {
	switch x.kind {
	case 0:
		w.Put(x.v, x.n)
	case 1:
		w.Code(x.v, x.n)
	case 2:
		w.Align()
	case 3:
		w.Bytes(x.b)
	}
}

// gotItem tells whether an item is got.
func gotItem(r *bits.Reader, x item) bool {
	lowest := uint32(uint64(x.v) % (1 << x.n))
	switch x.kind {
	case 0:
		v, ok := r.Get(x.n)
		return ok && v == lowest
	case 1:
		v := uint32(0)
		for range x.n {
			bit, ok := r.Bit()
			if !ok {
				return false
			}
			v = 2*v + bit
		}
		return v == lowest
	case 2:
		r.Align()
		return r.At()%8 == 0
	}
	b, ok := r.Bytes(len(x.b))
	return ok && slices.Equal(b, x.b)
}

func TestWhatIsPutIsGot(t *testing.T) { // P8.2
	r := source()
	for range 1000 {
		items := mixed(r, r.IntN(40))
		var w bits.Writer
		for _, x := range items {
			putItem(&w, x)
		}
		back := bits.Read(w.Done())
		for i, x := range items {
			if !gotItem(back, x) {
				t.Fatalf("%v: item %d", items, i)
			}
		}
		if back.At() != w.Len() {
			t.Fatalf("%v: %d of %d bits", items, back.At(), w.Len())
		}
		back.Align()
		if _, ok := back.Bit(); ok {
			t.Fatalf("%v: there is more", items)
		}
	}
}
