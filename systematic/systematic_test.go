package systematic_test

import (
	"math"
	"math/rand/v2"
	"slices"
	"testing"

	"footlocker/api"
	"footlocker/gf"
	"footlocker/systematic"
)

// source tells the same numbers in each run.
func source() *rand.Rand { return rand.New(rand.NewPCG(5, 6)) }

// some are so many bytes.
func some(r *rand.Rand, n int) []byte {
	row := make([]byte, n)
	for i := range row {
		row[i] = byte(r.IntN(256))
	}
	return row
}

// at is what the polynomial through the values at the places is at x: each value times the polynomial that is 1 at its place, and 0 at all others.
func at(xs, ys []byte, x byte) byte {
	sum := byte(0)
	for i, y := range ys {
		over, under := y, byte(1)
		for k, other := range xs {
			if k != i {
				over, under = gf.Mul(over, x^other), gf.Mul(under, xs[i]^other)
			}
		}
		value, _ := gf.Div(over, under)
		sum ^= value
	}
	return sum
}

// codeword is the one of n + k bytes whose first ones are the data.
func codeword(data []byte, k int) []byte {
	word := slices.Clone(data)
	for i := range k {
		word = append(word, at(places(len(data)), data, byte(len(data)+i)))
	}
	return word
}

// places are those from 0 on.
func places(n int) []byte {
	xs := make([]byte, n)
	for i := range xs {
		xs[i] = byte(i)
	}
	return xs
}

// shapes are how many bytes a word is of, and how many follow.
func shapes() [][2]int {
	return [][2]int{{1, 0}, {1, 1}, {1, 4}, {2, 0}, {2, 3}, {3, 3}, {5, 2}, {7, 9}, {20, 5}, {1, 254}, {254, 1}, {255, 0}, {30, 225}, {128, 127}}
}

func TestExamples(t *testing.T) { // P4.1
	for _, c := range []struct {
		data []byte
		k    int
		want []byte
	}{
		{[]byte{5, 7}, 1, []byte{1}},
		{[]byte{5, 7}, 2, []byte{1, 3}},
		{[]byte{5, 7}, 3, []byte{1, 3, 13}},
		{[]byte{9}, 2, []byte{9, 9}},
		{[]byte{0, 0, 0}, 4, []byte{0, 0, 0, 0}},
		{[]byte{0, 1, 2, 3}, 4, []byte{4, 5, 6, 7}},
		{[]byte{1, 2, 3}, 0, nil},
		{[]byte{9}, 254, slices.Repeat([]byte{9}, 254)},
	} {
		if got, e := systematic.Encode(c.data, c.k); !slices.Equal(got, c.want) || e != api.OK {
			t.Errorf("Encode(%v, %d) = %v, %d", c.data, c.k, got, e)
		}
	}
}

func TestEncodeErrorsInOrder(t *testing.T) { // P4.1, P1
	for _, c := range []struct {
		n, k int
		want api.Errno
	}{
		{0, 0, api.ErrArg}, {0, 1, api.ErrArg}, {0, 256, api.ErrArg}, {0, -1, api.ErrArg}, {0, math.MaxInt, api.ErrArg},
		{1, -1, api.ErrArg}, {1, math.MinInt, api.ErrArg}, {255, -1, api.ErrArg}, {256, -1, api.ErrArg}, {1000, -1000, api.ErrArg},
		{1, 254, api.OK}, {1, 255, api.ErrMany}, {1, math.MaxInt, api.ErrMany}, {2, math.MaxInt - 1, api.ErrMany}, {255, math.MaxInt, api.ErrMany},
		{100, 155, api.OK}, {100, 156, api.ErrMany}, {254, 1, api.OK}, {254, 2, api.ErrMany},
		{255, 0, api.OK}, {255, 1, api.ErrMany}, {256, 0, api.ErrMany}, {1 << 16, 0, api.ErrMany}, {1 << 16, math.MaxInt, api.ErrMany},
	} {
		got, e := systematic.Encode(make([]byte, c.n), c.k)
		if e != c.want || e != api.OK && len(got) != 0 || e == api.OK && len(got) != c.k {
			t.Errorf("Encode of %d, %d: %d bytes, %d, not %d", c.n, c.k, len(got), e, c.want)
		}
	}
	if _, e := systematic.Encode([]byte{}, 1); e != api.ErrArg {
		t.Errorf("of an empty list: %d", e)
	}
}

func TestEncodeLiesOnAPolynomial(t *testing.T) { // P4.1
	r := source()
	for _, s := range shapes() {
		for range 3 {
			data := some(r, s[0])
			want := codeword(data, s[1])[s[0]:]
			if got, e := systematic.Encode(data, s[1]); !slices.Equal(got, want) || e != api.OK {
				t.Fatalf("Encode(%v, %d) = %v, %d, not %v", data, s[1], got, e, want)
			}
		}
	}
}

func TestIs(t *testing.T) { // P4.1
	r := source()
	for _, s := range shapes() {
		n, k := s[0], s[1]
		word := codeword(some(r, n), k)
		if !systematic.Is(word, n) {
			t.Fatalf("%v is one for %d", word, n)
		}
		step := 1 + len(word)/20
		for more := n; more <= len(word); more += step { // of a degree below n is of one below more, too
			if !systematic.Is(word, more) {
				t.Fatalf("%v is one for %d", word, more)
			}
		}
		for i := len(word) - 1; i >= 0; i -= step {
			turned := slices.Clone(word)
			turned[i] ^= byte(1 + r.IntN(255))
			if systematic.Is(turned, n) != (k == 0) {
				t.Fatalf("%v for %d: turned at %d", turned, n, i)
			}
			if !systematic.Is(turned, len(word)) {
				t.Fatalf("%v: all of it tells itself", turned)
			}
		}
	}
}

func TestIsOfWhatNoWordIs(t *testing.T) { // P4.1
	for _, c := range []struct {
		long, n int
		want    bool
	}{
		{0, 0, false}, {0, 1, false}, {0, -1, false}, {4, 0, false}, {4, -1, false}, {4, math.MinInt, false}, {4, 5, false}, {4, math.MaxInt, false},
		{4, 1, true}, {4, 4, true}, {255, 1, true}, {255, 255, true}, {255, 256, false}, {256, 1, false}, {256, 255, false}, {256, 256, false}, {1 << 16, 2, false},
	} {
		if got := systematic.Is(make([]byte, c.long), c.n); got != c.want {
			t.Errorf("%d noughts for %d: %v", c.long, c.n, got)
		}
	}
	if systematic.Is([]byte{0, 0, 1}, 2) || systematic.Is([]byte{1, 2}, 1) || !systematic.Is([]byte{7, 7, 7}, 1) {
		t.Error("Is")
	}
}

func TestIsJustOne(t *testing.T) { // P4.1: of all that may follow, just one does
	for a := range 256 {
		ones := 0
		for b := range 256 {
			if systematic.Is([]byte{5, byte(a), byte(b)}, 2) {
				ones++
			}
		}
		if ones != 1 {
			t.Fatalf("5, %d, and %d that follow", a, ones)
		}
	}
}

func TestFillExamples(t *testing.T) { // P4.1
	whole := []byte{5, 7, 1, 3}
	for _, c := range []struct {
		word  []byte
		there []bool
		n     int
		want  []byte
	}{
		{[]byte{0, 0, 1, 3}, []bool{false, false, true, true}, 2, whole},
		{[]byte{5, 99, 99, 3}, []bool{true, false, false, true}, 2, whole},
		{[]byte{5, 0, 1, 99}, []bool{true, false, true, true}, 2, whole},
		{[]byte{5, 7, 98, 99}, []bool{true, true, true, true}, 2, whole},
		{[]byte{99, 7, 98, 97}, []bool{false, true, false, false}, 1, []byte{7, 7, 7, 7}},
		{[]byte{9, 8, 7}, []bool{true, true, true}, 3, []byte{9, 8, 7}},
		{[]byte{9}, []bool{true}, 1, []byte{9}},
	} {
		if got, e := systematic.Fill(c.word, c.there, c.n); !slices.Equal(got, c.want) || e != api.OK {
			t.Errorf("Fill(%v, %v, %d) = %v, %d", c.word, c.there, c.n, got, e)
		}
	}
}

func TestFillErrorsInOrder(t *testing.T) { // P4.1, P1
	for _, c := range []struct {
		long, marks, there, n int
		want                  api.Errno
	}{
		{0, 0, 0, 0, api.ErrArg}, {0, 0, 0, 1, api.ErrArg}, {0, 1, 1, 1, api.ErrArg}, {1, 0, 0, 1, api.ErrArg},
		{4, 3, 3, 2, api.ErrArg}, {3, 4, 4, 2, api.ErrArg}, {4, 3, 0, 2, api.ErrArg}, {4, 1, 1, 0, api.ErrArg},
		{4, 4, 4, 0, api.ErrArg}, {4, 4, 4, -1, api.ErrArg}, {4, 4, 4, math.MinInt, api.ErrArg}, {4, 4, 4, 5, api.ErrArg}, {4, 4, 0, 5, api.ErrArg}, {4, 4, 4, math.MaxInt, api.ErrArg},
		{256, 256, 256, 1, api.ErrArg}, {256, 256, 0, 1, api.ErrArg}, {256, 256, 256, 256, api.ErrArg}, {256, 255, 255, 2, api.ErrArg},
		{4, 4, 0, 1, api.ErrLost}, {4, 4, 1, 2, api.ErrLost}, {4, 4, 3, 4, api.ErrLost}, {255, 255, 254, 255, api.ErrLost},
		{4, 4, 1, 1, api.OK}, {4, 4, 2, 2, api.OK}, {4, 4, 4, 4, api.OK}, {255, 255, 255, 255, api.OK}, {255, 255, 1, 1, api.OK},
	} {
		there := make([]bool, c.marks)
		for i := range c.there {
			there[c.marks-1-i] = true
		}
		got, e := systematic.Fill(make([]byte, c.long), there, c.n)
		if e != c.want || e != api.OK && len(got) != 0 || e == api.OK && len(got) != c.long {
			t.Errorf("Fill of %d, %d of %d there, for %d: %d bytes, %d, not %d", c.long, c.there, c.marks, c.n, len(got), e, c.want)
		}
	}
}

func TestFillTakesTheFirstThatAreThere(t *testing.T) { // P4.1
	r := source()
	for range 400 {
		n := 1 + r.IntN(8)
		word := some(r, n+r.IntN(10))
		there := make([]bool, len(word))
		var xs, ys []byte
		for i := range there {
			there[i] = r.IntN(3) > 0
			if there[i] && len(xs) < n {
				xs, ys = append(xs, byte(i)), append(ys, word[i])
			}
		}
		got, e := systematic.Fill(word, there, n)
		if len(xs) < n {
			if e != api.ErrLost || len(got) != 0 {
				t.Fatalf("Fill(%v, %v, %d) = %v, %d", word, there, n, got, e)
			}
			continue
		}
		if e != api.OK || len(got) != len(word) {
			t.Fatalf("Fill(%v, %v, %d) = %v, %d", word, there, n, got, e)
		}
		for i, v := range got {
			if v != at(xs, ys, byte(i)) {
				t.Fatalf("Fill(%v, %v, %d) = %v", word, there, n, got)
			}
		}
	}
}

func TestAt(t *testing.T) { // P4.1
	r := source()
	for _, n := range []int{1, 2, 3, 8, 60, 254, 255} {
		data := some(r, n)
		for _, behind := range []int{0, 1, 7} { // whichever its length: what follows the first n doesn't matter
			word := append(slices.Clone(data), some(r, behind)...)
			step := 1 + n/8
			for i := -5; i < 265; i += step {
				got, ok := systematic.At(word, n, i)
				there := i >= 0 && i <= 254 && len(word) <= 255
				if ok != there || !ok && got != 0 || ok && got != at(places(n), data, byte(i)) {
					t.Fatalf("At %d of %d, and %d behind: %d, %v", i, n, behind, got, ok)
				}
			}
		}
	}
}

func TestAtEdges(t *testing.T) { // P4.1
	for _, c := range []struct {
		long, n, i int
		ok         bool
	}{
		{3, 2, 0, true}, {3, 2, 254, true}, {3, 2, 255, false}, {3, 2, 256, false}, {3, 2, 511, false}, {3, 2, -1, false}, {3, 2, -256, false}, {3, 2, math.MinInt, false}, {3, 2, math.MaxInt, false},
		{3, 3, 200, true}, {3, 4, 0, false}, {3, 0, 0, false}, {3, -1, 0, false}, {0, 0, 0, false}, {0, 1, 0, false},
		{255, 255, 254, true}, {255, 1, 254, true}, {256, 1, 0, false}, {256, 256, 255, false},
	} {
		word := slices.Repeat([]byte{6}, c.long)
		if got, ok := systematic.At(word, c.n, c.i); ok != c.ok || ok && got != 6 || !ok && got != 0 {
			t.Errorf("At %d of %d bytes, for %d: %d, %v", c.i, c.long, c.n, got, ok)
		}
	}
	if got, ok := systematic.At([]byte{5, 7}, 2, 2); got != 1 || !ok {
		t.Errorf("5, 7, and %d, %v", got, ok)
	}
}

func TestAnyBytesTellAll(t *testing.T) { // P4.2, P3, P4: each choice of n bytes
	r := source()
	for _, s := range [][2]int{{1, 3}, {2, 2}, {2, 5}, {3, 4}, {4, 3}, {5, 5}} {
		n, k := s[0], s[1]
		data := some(r, n)
		follow, e := systematic.Encode(data, k)
		word := append(slices.Clone(data), follow...)
		if e != api.OK || !systematic.Is(word, n) {
			t.Fatalf("%v for %d: %d", word, n, e)
		}
		for choice := range 1 << (n + k) {
			there, count, left := make([]bool, n+k), 0, some(r, n+k)
			for i := range there {
				if choice>>i&1 == 1 {
					there[i], left[i] = true, word[i]
					count++
				}
			}
			got, e := systematic.Fill(left, there, n)
			if count >= n && (e != api.OK || !slices.Equal(got, word)) || count < n && e != api.ErrLost {
				t.Fatalf("%v, of which %v are there: %v, %d", word, there, got, e)
			}
		}
		for i, v := range word {
			if got, ok := systematic.At(word, n, i); got != v || !ok {
				t.Fatalf("%v at %d: %d", word, i, got)
			}
		}
	}
}

func TestLongWordsOfWhichAsManyAreGone(t *testing.T) { // P4.2
	r := source()
	for _, s := range shapes() {
		n, k := s[0], s[1]
		data := some(r, n)
		follow, _ := systematic.Encode(data, k)
		word := append(slices.Clone(data), follow...)
		left, there := slices.Clone(word), slices.Repeat([]bool{true}, n+k)
		for _, i := range r.Perm(n + k)[:k] {
			there[i] = false
			left[i] ^= byte(1 + r.IntN(255))
		}
		if got, e := systematic.Fill(left, there, n); e != api.OK || !slices.Equal(got, word) {
			t.Fatalf("%v for %d: %v, %d", word, n, got, e)
		}
	}
}

func TestUnlikeCodewordsDifferAtMoreThanK(t *testing.T) { // P4.2
	const k = 4
	nought, _ := systematic.Encode([]byte{0, 0}, k)
	for a := range 256 {
		for b := range 256 {
			data := []byte{byte(a), byte(b)}
			follow, _ := systematic.Encode(data, k)
			differ := 0
			for i, v := range append(data, follow...) {
				if v != append([]byte{0, 0}, nought...)[i] {
					differ++
				}
			}
			if a+b > 0 && differ <= k {
				t.Fatalf("%v and noughts differ at %d places", data, differ)
			}
		}
	}
	r := source()
	for range 300 {
		n, k := 1+r.IntN(20), r.IntN(20)
		one := some(r, n)
		other := slices.Clone(one)
		other[r.IntN(n)] ^= byte(1 + r.IntN(255))
		differ := 0
		followOne, _ := systematic.Encode(one, k)
		followOther, _ := systematic.Encode(other, k)
		for i, v := range append(one, followOne...) {
			if v != append(slices.Clone(other), followOther...)[i] {
				differ++
			}
		}
		if differ <= k {
			t.Fatalf("%v and %v differ at %d places", one, other, differ)
		}
	}
}

func TestRowsAreNeitherTurnedNorKept(t *testing.T) { // P2, and the rules that hold everywhere
	calls := func(word []byte, there []bool) [][]byte {
		follow, _ := systematic.Encode(word, 3)
		nothing, _ := systematic.Encode(word, 0)
		filled, _ := systematic.Fill(word, there, 2)
		itself, _ := systematic.Fill(word, there, len(word))
		systematic.Is(word, 2)
		systematic.At(word, 2, 9)
		return [][]byte{follow, nothing, filled, itself}
	}
	for _, c := range []struct {
		word  []byte
		there []bool
	}{
		{[]byte{5, 7, 1, 3}, []bool{true, true, true, true}},
		{[]byte{5, 7, 9, 3}, []bool{false, true, false, true}},
		{[]byte{0, 0}, []bool{true, true}},
	} {
		word, there := append(slices.Clone(c.word), 0xA5, 0xA5), append(slices.Clone(c.there), true, false)
		wantWord, wantThere := slices.Clone(word), slices.Clone(there)
		first := calls(word[:len(c.word)], there[:len(c.there)])
		if !slices.Equal(word, wantWord) || !slices.Equal(there, wantThere) {
			t.Fatalf("turned: %v, %v", word, there)
		}
		again := calls(word[:len(c.word)], there[:len(c.there)])
		clear(word)
		clear(there)
		for i, row := range first {
			if !slices.Equal(row, again[i]) {
				t.Errorf("%v: answer %d was %v, and is %v", c.word, i, again[i], row)
			}
		}
		for i, row := range first {
			room := row[:cap(row)]
			for k := range room {
				room[k] = 0xFF
			}
			for k := i + 1; k < len(first); k++ {
				if !slices.Equal(first[k], again[k]) {
					t.Errorf("%v: answers %d and %d share room", c.word, i, k)
				}
			}
		}
		if !slices.Equal(word, make([]byte, len(word))) {
			t.Errorf("%v: room is shared with an answer", c.word)
		}
	}
}
