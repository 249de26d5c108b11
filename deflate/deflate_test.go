package deflate_test

import (
	"bytes"
	"compress/flate"
	"io"
	"math"
	"math/rand/v2"
	"slices"
	"strings"
	"testing"

	"footlocker/api"
	"footlocker/deflate"
	"footlocker/inflate"
)

// source tells the same numbers in each run.
func source() *rand.Rand { return rand.New(rand.NewPCG(29, 30)) }

// storedForm is the stored form by the chapter's words, and layer 12's: a byte whose lowest bit says whether the block is the last one, two numbers, the bytes.
func storedForm(b []byte) []byte {
	out := []byte{}
	for {
		size := min(len(b), 65535)
		first := byte(0)
		if size == len(b) {
			first = 1
		}
		out = append(out, first, byte(size), byte(size>>8), byte(^size), byte(^size>>8))
		out = append(out, b[:size]...)
		if b = b[size:]; len(b) == 0 {
			return out
		}
	}
}

// some are bytes of one kind, so many.
func some(r *rand.Rand, size, letters int) []byte {
	b := make([]byte, size)
	for i := range b {
		b[i] = byte(r.IntN(letters) * 7)
	}
	return b
}

// text is bytes of words, the first of which come most often.
func text(r *rand.Rand, size int) []byte {
	var words [][]byte
	for range 500 {
		word := make([]byte, 2+r.IntN(9))
		for i := range word {
			word[i] = "etaoinshrdlucmfwypvbgkqjxz"[min(r.IntN(26), r.IntN(26))]
		}
		words = append(words, append(word, ' '))
	}
	var b []byte
	for len(b) < size {
		b = append(b, words[r.IntN(1+r.IntN(len(words)))]...)
	}
	return b[:size]
}

// hill is bytes that are near 128 more often than far from it.
func hill(r *rand.Rand, size int) []byte {
	b := make([]byte, size)
	for i := range b {
		b[i] = byte(128 + 12*r.NormFloat64())
	}
	return b
}

// rows are bytes of many kinds, by their names.
func rows() map[string][]byte {
	r := source()
	all := map[string][]byte{
		"none":      {},
		"one":       {'A'},
		"text":      text(r, 40000),
		"of two":    some(r, 20000, 2),
		"of four":   some(r, 20000, 4),
		"of all":    some(r, 10000, 256),
		"a hill":    hill(r, 20000),
		"zeros":     make([]byte, 200000),
		"again":     []byte(strings.Repeat("ab\xffc", 40000)),
		"far again": slices.Repeat(some(r, 32768, 256), 2),
		"a block":   some(r, 65535, 256),
		"one more":  some(r, 65536, 256),
	}
	all["mixed"] = slices.Concat(all["of all"], all["text"], all["of two"], all["of all"], make([]byte, 1000), all["text"][:9000])
	return all
}

// levels are levels within their bounds and beyond.
var levels = []int{math.MinInt, -1, 0, 1, 5, 9, 10, math.MaxInt}

// unpacks checks that a row unpacks to bytes, by layer 12 and by Go's library.
func unpacks(t *testing.T, name string, row, want []byte) {
	t.Helper()
	if b, e := inflate.All(row, len(want)); !bytes.Equal(b, want) || e != api.OK {
		t.Fatalf("%s: %d bytes, %d, not %d bytes", name, len(b), e, len(want))
	}
	if b, err := io.ReadAll(flate.NewReader(bytes.NewReader(row))); !bytes.Equal(b, want) || err != nil {
		t.Fatalf("%s: Go's library has %d bytes, %v, not %d bytes", name, len(b), err, len(want))
	}
}

func TestTheExample(t *testing.T) { // P15.1
	want := []byte{1, 1, 0, 0xFE, 0xFF, 0x41}
	if row := deflate.Pack([]byte("A"), 0); !bytes.Equal(row, want) {
		t.Errorf("%x", row)
	}
}

func TestStoredIsAsSaid(t *testing.T) { // P15.1
	r := source()
	for _, size := range []int{0, 1, 2, 255, 256, 1000, 65534, 65535, 65536, 65537, 131069, 131070, 131071, 200000} {
		b := some(r, size, 256)
		row := deflate.Stored(b)
		if want := storedForm(b); !bytes.Equal(row, want) {
			t.Errorf("%d bytes: %d, %.20x, not %d, %.20x", size, len(row), row, len(want), want)
		}
		if n := deflate.StoredSize(size); n != len(row) {
			t.Errorf("%d bytes: %d, not %d", size, n, len(row))
		}
		unpacks(t, "stored", row, b)
	}
	if !bytes.Equal(deflate.Stored(nil), []byte{1, 0, 0, 0xFF, 0xFF}) {
		t.Errorf("%x", deflate.Stored(nil))
	}
}

func TestStoredSize(t *testing.T) { // P15.1
	for _, c := range []struct{ n, want int }{
		{0, 5}, {1, 6}, {65534, 65539}, {65535, 65540}, {65536, 65546}, {131070, 131080}, {131071, 131086}, {196605, 196620},
		{65535 << 20, 65535<<20 + 5<<20}, {65535<<20 + 1, 65535<<20 + 5<<20 + 6}, {65535<<20 - 1, 65535<<20 + 5<<20 - 1},
		{1<<40 - 1, 1<<40 - 1 + 5*16777473}, {1 << 40, 1<<40 + 5*16777473}, {1<<40 + 1, 1<<40 + 5*16777473}, {math.MaxInt, 1<<40 + 5*16777473},
		{-1, 5}, {-65536, 5}, {math.MinInt, 5},
	} {
		if n := deflate.StoredSize(c.n); n != c.want {
			t.Errorf("%d: %d, not %d", c.n, n, c.want)
		}
	}
}

func TestWhatIsPackedUnpacks(t *testing.T) { // P15.1
	for name, b := range rows() {
		for _, level := range levels {
			row := deflate.Pack(b, level)
			unpacks(t, name, row, b)
			if len(row) > deflate.StoredSize(len(b)) {
				t.Errorf("%s, level %d: %d bytes packed to %d", name, level, len(b), len(row))
			}
			if level <= 0 && !bytes.Equal(row, storedForm(b)) {
				t.Errorf("%s, level %d: it isn't the stored form", name, level)
			}
		}
	}
}

func TestTheSameIsChosenAgain(t *testing.T) { // P15.1
	for name, b := range rows() {
		nine := deflate.Pack(b, 9)
		for _, level := range []int{9, 10, 64, math.MaxInt} {
			if !bytes.Equal(deflate.Pack(slices.Clone(b), level), nine) {
				t.Errorf("%s: level %d isn't as 9", name, level)
			}
		}
	}
}

func TestShortRows(t *testing.T) { // P15.1
	r := source()
	for range 1000 {
		b := some(r, r.IntN(300), 1+r.IntN(1+r.IntN(256)))
		level := r.IntN(12) - 1
		row := deflate.Pack(b, level)
		unpacks(t, "a short row", row, b)
		if len(row) > deflate.StoredSize(len(b)) || level <= 0 && !bytes.Equal(row, storedForm(b)) {
			t.Errorf("level %d: %x packed to %x", level, b, row)
		}
		methodIsAsSaid(t, "a short row", b, level)
	}
	for v := range 256 {
		b := []byte{byte(v)}
		unpacks(t, "a byte", deflate.Pack(b, 1), b)
		if n := len(deflate.Pack(b, 1)); n != 3 {
			t.Errorf("%x is packed to %d bytes", b, n)
		}
	}
	for _, b := range [][]byte{nil, {}} {
		if row := deflate.Pack(b, 1); !bytes.Equal(row, []byte{3, 0}) {
			t.Errorf("nothing is packed to %x", row)
		}
	}
}

func TestARowOfOneByte(t *testing.T) { // P15.2
	for size := 32; size < 1400; size++ {
		isShort(t, bytes.Repeat([]byte{byte(size)}, size), 1+size%9)
	}
	for _, size := range []int{32, 33, 258, 259, 260, 4000, 32768, 32769, 65535, 65536} {
		for _, v := range []byte{0, 'a', 143, 144, 255} {
			isShort(t, bytes.Repeat([]byte{v}, size), 1)
			isShort(t, bytes.Repeat([]byte{v}, size), 9)
		}
	}
	isShort(t, make([]byte, 1<<20), 1)
	for _, level := range []int{1, 2, 3, 4, 5, 6, 7, 8, 9, 10, math.MaxInt} {
		isShort(t, make([]byte, 32), level)
		isShort(t, make([]byte, 100000), level)
	}
}

// isShort checks how short a row of one byte is packed.
func isShort(t *testing.T, b []byte, level int) {
	t.Helper()
	row := deflate.Pack(b, level)
	if 2*len(row) >= len(b) || len(row) > 16+len(b)/100 {
		t.Errorf("%d times %d, level %d: %d bytes", len(b), b[0], level, len(row))
	}
	if out, e := inflate.All(row, len(b)); !bytes.Equal(out, b) || e != api.OK {
		t.Errorf("%d times %d, level %d: %d", len(b), b[0], level, e)
	}
}

// methodIsAsSaid checks how a file is laid, and tells it.
func methodIsAsSaid(t *testing.T, name string, b []byte, level int) int {
	t.Helper()
	want, row := 0, b
	if packed := deflate.Pack(b, level); level > 0 && len(packed) < len(b) {
		want, row = 8, packed
	}
	how, out := deflate.Method(b, level)
	if how != want || !bytes.Equal(out, row) {
		t.Errorf("%s, level %d: %d, %d bytes, not %d, %d bytes", name, level, how, len(out), want, len(row))
	}
	return how
}

func TestMethod(t *testing.T) { // P15.1
	for name, b := range rows() {
		packs := !slices.Contains([]string{"none", "one", "of all", "a block", "one more"}, name)
		for _, level := range []int{math.MinInt, -1, 0, 1, 9} {
			if how := methodIsAsSaid(t, name, b, level); (how == 8) != (packs && level > 0) {
				t.Errorf("%s, level %d: %d", name, level, how)
			}
		}
	}
}

func TestMethodWhereNothingIsWon(t *testing.T) { // P15.1
	for _, s := range []string{"", "A", "AB", "ABCDE", "aaaa"} { // the last one is 3, 8, 7, 5 and 7 bits, for a, 3 from 1 back, and the end: 4 bytes
		for _, level := range []int{1, 9, math.MaxInt} {
			if how, out := deflate.Method([]byte(s), level); how != 0 || string(out) != s {
				t.Errorf("%q, level %d: %d, %x", s, level, how, out)
			}
		}
	}
	if how, out := deflate.Method([]byte("aaaaa"), 1); how != 8 || len(out) != 4 {
		t.Errorf("%d, %x", how, out)
	}
}

// byLibrary is how many bytes Go's library packs to, at a level of its own.
func byLibrary(t *testing.T, b []byte, level int) int {
	t.Helper()
	var out bytes.Buffer
	w, err := flate.NewWriter(&out, level)
	if err != nil {
		t.Fatal(err)
	}
	if _, err := w.Write(b); err != nil {
		t.Fatal(err)
	}
	if err := w.Close(); err != nil {
		t.Fatal(err)
	}
	return out.Len()
}

func TestItIsAboutAsShortAsElsewhere(t *testing.T) { // P15.1
	for name, b := range rows() {
		for _, level := range []int{1, 6, 9} {
			n, most := len(deflate.Pack(b, level)), byLibrary(t, b, level)
			if n > most+most/25 {
				t.Errorf("%s, level %d: %d bytes, where Go's library has %d", name, level, n, most)
			}
		}
	}
}

func TestHigherLevelsPackShorter(t *testing.T) { // P15.1
	b := text(source(), 60000)
	low, high := len(deflate.Pack(b, 1)), len(deflate.Pack(b, 9))
	if high >= low || low >= len(b)/2 {
		t.Errorf("%d bytes, and %d, of %d", low, high, len(b))
	}
}

func TestMatchesThatDontPayAreLeft(t *testing.T) { // P15.1
	r := source()
	for name, b := range map[string][]byte{"of four": some(r, 30000, 4), "a hill": hill(r, 30000)} {
		most := byLibrary(t, b, flate.HuffmanOnly)
		for level := 1; level < 10; level++ {
			if n := len(deflate.Pack(b, level)); n > most+most/500 {
				t.Errorf("%s, level %d: %d bytes, where those alone take %d", name, level, n, most)
			}
		}
	}
}

func TestPartsHaveCodesOfTheirOwn(t *testing.T) { // P15.1
	r := source()
	low, high := some(r, 40000, 5), some(r, 40000, 5)
	for i := range high {
		high[i] += 100
	}
	random := some(r, 40000, 256)
	whole := slices.Concat(low, random, high)
	apart := len(deflate.Pack(low, 6)) + deflate.StoredSize(len(random)) + len(deflate.Pack(high, 6))
	if n := len(deflate.Pack(whole, 6)); n > apart+apart/50 {
		t.Errorf("%d bytes, though %d apart", n, apart)
	}
}

func TestNothingIsTurnedOrKept(t *testing.T) { // P15.1
	const whole = "she sells sea shells, she sells; and more"
	room := []byte(whole)
	b := room[:len(room)-10]
	pack := func(level int) func() []byte { return func() []byte { return deflate.Pack(b, level) } }
	method := func(level int) func() []byte {
		return func() []byte {
			_, out := deflate.Method(b, level)
			return out
		}
	}
	for i, call := range []func() []byte{pack(0), pack(9), method(0), method(9), func() []byte { return deflate.Stored(b) }} {
		out := call()
		want := slices.Clone(out)
		if string(room) != whole {
			t.Errorf("call %d turned %q", i, room)
		}
		clear(room)
		if !bytes.Equal(out, want) {
			t.Errorf("call %d kept what it was given", i)
		}
		copy(room, whole)
		clear(out[:cap(out)])
		if string(room) != whole {
			t.Errorf("call %d answered what it was given", i)
		}
	}
}
