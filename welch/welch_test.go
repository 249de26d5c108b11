package welch_test

import (
	"math"
	"math/bits"
	"math/rand/v2"
	"slices"
	"testing"

	"footlocker/api"
	"footlocker/systematic"
	"footlocker/welch"
)

// source tells the same numbers in each run.
func source() *rand.Rand { return rand.New(rand.NewPCG(7, 8)) }

// some are so many bytes.
func some(r *rand.Rand, n int) []byte {
	row := make([]byte, n)
	for i := range row {
		row[i] = byte(r.IntN(256))
	}
	return row
}

// all are so many places, each of which is there.
func all(n int) []bool { return slices.Repeat([]bool{true}, n) }

// codeword is one for n, of n + k bytes.
func codeword(t *testing.T, r *rand.Rand, n, k int) []byte {
	t.Helper()
	data := some(r, n)
	follow, e := systematic.Encode(data, k)
	if e != api.OK {
		t.Fatalf("no codeword of %d and %d: %d", n, k, e)
	}
	return append(data, follow...)
}

// harm is a word of which so many bytes are gone, and so many others wrong; the places of the latter rise. What is gone has whatever bytes.
func harm(r *rand.Rand, whole []byte, gone, wrong int) (word []byte, there []bool, at []int) {
	word, there = slices.Clone(whole), all(len(whole))
	order := r.Perm(len(whole))
	for _, i := range order[:gone] {
		there[i] = false
		word[i] = byte(r.IntN(256))
	}
	at = order[gone : gone+wrong]
	for _, i := range at {
		word[i] ^= byte(1 + r.IntN(255))
	}
	slices.Sort(at)
	return word, there, at
}

// count is how many places are there.
func count(there []bool) int {
	n := 0
	for _, is := range there {
		if is {
			n++
		}
	}
	return n
}

// differ is how many places are there at which two words differ.
func differ(a, b []byte, there []bool) int {
	n := 0
	for i, is := range there {
		if is && a[i] != b[i] {
			n++
		}
	}
	return n
}

// nearest is what Decode must tell, of each choice of n bytes that are there: a codeword that differs at as few as it may has as many in common.
func nearest(word []byte, there []bool, n int) (best []byte, wrong int) {
	most := (count(there) - n) / 2
	for choice := range 1 << len(word) {
		if bits.OnesCount(uint(choice)) != n {
			continue
		}
		chosen := make([]bool, len(word))
		for i := range chosen {
			chosen[i] = choice>>i&1 == 1 && there[i]
		}
		told, e := systematic.Fill(word, chosen, n)
		if e == api.OK && differ(word, told, there) <= most && (best == nil || differ(word, told, there) < wrong) {
			best, wrong = told, differ(word, told, there)
		}
	}
	return best, wrong
}

// check holds Decode and Wrong against the codeword that must be told, nil if none must.
func check(t *testing.T, word []byte, there []bool, n int, want []byte) {
	t.Helper()
	told, wrong, e := welch.Decode(word, there, n)
	at, ok := welch.Wrong(word, there, n)
	if want == nil {
		if e != api.ErrLost || len(told) != 0 || wrong != 0 || ok || len(at) != 0 {
			t.Fatalf("%v, %v for %d: %v, %d, %d; %v, %v", word, there, n, told, wrong, e, at, ok)
		}
		return
	}
	var wantAt []int
	for i, is := range there {
		if is && word[i] != want[i] {
			wantAt = append(wantAt, i)
		}
	}
	if e != api.OK || !slices.Equal(told, want) || wrong != len(wantAt) || !ok || !slices.Equal(at, wantAt) {
		t.Fatalf("%v, %v for %d: %v, %d, %d; %v, %v, not %v", word, there, n, told, wrong, e, at, ok, want)
	}
}

func TestExamples(t *testing.T) { // P5.1
	whole := []byte{5, 7, 1, 3}
	for _, c := range []struct {
		word  []byte
		there []bool
		n     int
		want  []byte
	}{
		{whole, all(4), 2, whole},
		{[]byte{5, 7, 1, 9}, all(4), 2, whole},
		{[]byte{5, 7, 9, 3}, all(4), 2, whole},
		{[]byte{5, 9, 1, 3}, all(4), 2, whole},
		{[]byte{9, 7, 1, 3}, all(4), 2, whole},
		{[]byte{5, 7, 9, 9}, all(4), 2, nil},
		{[]byte{9, 9, 1, 3}, []bool{false, false, true, true}, 2, whole},
		{[]byte{9, 7, 1, 3}, []bool{false, true, true, true}, 2, whole},
		{[]byte{5, 7, 1, 9}, []bool{false, true, true, true}, 2, nil},
		{[]byte{5, 7, 1, 9}, []bool{true, true, true, false}, 2, whole},
		{[]byte{5, 7, 1, 9}, all(4), 4, []byte{5, 7, 1, 9}},
		{[]byte{5, 7, 1, 9}, all(4), 3, nil},
		{[]byte{4, 4, 6, 4}, all(4), 1, []byte{4, 4, 4, 4}},
		{[]byte{4, 6, 6}, all(3), 1, []byte{6, 6, 6}},
		{[]byte{4, 6}, all(2), 1, nil},
		{[]byte{4, 4, 6, 6}, all(4), 1, nil},
		{[]byte{4, 4, 6, 6, 6}, all(5), 1, []byte{6, 6, 6, 6, 6}},
		{[]byte{4, 5, 6}, all(3), 1, nil},
		{[]byte{9}, all(1), 1, []byte{9}},
		{[]byte{0, 0, 7, 0}, all(4), 2, []byte{0, 0, 0, 0}},
	} {
		check(t, c.word, c.there, c.n, c.want)
	}
}

func TestErrorsInOrder(t *testing.T) { // P5.1, P1
	for _, c := range []struct {
		long, marks, there, n int
		want                  api.Errno
	}{
		{0, 0, 0, 0, api.ErrArg}, {0, 0, 0, 1, api.ErrArg}, {0, 0, 0, -1, api.ErrArg}, {0, 1, 1, 1, api.ErrArg}, {1, 0, 0, 1, api.ErrArg},
		{4, 3, 3, 2, api.ErrArg}, {3, 4, 4, 2, api.ErrArg}, {4, 3, 0, 2, api.ErrArg}, {3, 4, 1, 2, api.ErrArg}, {4, 1, 1, 0, api.ErrArg},
		{4, 4, 4, 0, api.ErrArg}, {4, 4, 0, 0, api.ErrArg}, {4, 4, 4, -1, api.ErrArg}, {4, 4, 4, math.MinInt, api.ErrArg},
		{4, 4, 4, 5, api.ErrArg}, {4, 4, 0, 5, api.ErrArg}, {4, 4, 4, math.MaxInt, api.ErrArg},
		{256, 256, 256, 1, api.ErrArg}, {256, 256, 0, 1, api.ErrArg}, {256, 256, 256, 256, api.ErrArg}, {256, 255, 255, 2, api.ErrArg}, {1 << 16, 1 << 16, 1 << 16, 3, api.ErrArg},
		{4, 4, 0, 1, api.ErrLost}, {4, 4, 1, 2, api.ErrLost}, {4, 4, 3, 4, api.ErrLost}, {255, 255, 254, 255, api.ErrLost}, {255, 255, 0, 1, api.ErrLost},
		{1, 1, 1, 1, api.OK}, {4, 4, 1, 1, api.OK}, {4, 4, 2, 2, api.OK}, {4, 4, 4, 4, api.OK}, {255, 255, 255, 255, api.OK}, {255, 255, 255, 1, api.OK}, {255, 255, 1, 1, api.OK},
	} {
		there := make([]bool, c.marks)
		for i := range c.there {
			there[c.marks-1-i] = true
		}
		got, wrong, e := welch.Decode(make([]byte, c.long), there, c.n)
		if e != c.want || wrong != 0 || e != api.OK && len(got) != 0 || e == api.OK && len(got) != c.long {
			t.Errorf("Decode of %d, %d of %d there, for %d: %d bytes, %d, %d, not %d", c.long, c.there, c.marks, c.n, len(got), wrong, e, c.want)
		}
		if at, ok := welch.Wrong(make([]byte, c.long), there, c.n); len(at) != 0 || ok != (c.want == api.OK) {
			t.Errorf("Wrong of %d, %d of %d there, for %d: %v, %v", c.long, c.there, c.marks, c.n, at, ok)
		}
	}
}

func TestMost(t *testing.T) { // P5.1
	for _, c := range []struct{ there, gone, n, want int }{
		{4, 0, 1, 1}, {4, 0, 2, 1}, {4, 0, 3, 0}, {4, 0, 4, 0}, {4, 0, 5, -1}, {4, 0, 0, -1}, {4, 0, -1, -1}, {4, 0, -2, -1},
		{4, 9, 1, 1}, {4, 9, 5, -1}, {5, 0, 1, 2}, {5, 3, 2, 1}, {5, 3, 3, 1}, {5, 3, 4, 0}, {1, 0, 1, 0}, {0, 4, 1, -1}, {0, 4, 0, -1},
		{0, 0, 0, -1}, {0, 0, 1, -1}, {0, 0, -1, -1}, {0, 0, math.MaxInt, -1}, {7, 1, math.MaxInt, -1}, {7, 1, math.MinInt, -1},
		{255, 0, 1, 127}, {255, 0, 2, 126}, {255, 0, 255, 0}, {256, 0, 1, 127}, {1000, 50, 10, 495}, {1000, 50, 1001, -1},
	} {
		there := append(make([]bool, c.gone), all(c.there)...)
		if got := welch.Most(there, c.n); got != c.want {
			t.Errorf("Most of %d, and %d gone, for %d: %d, not %d", c.there, c.gone, c.n, got, c.want)
		}
		slices.Reverse(there)
		if got := welch.Most(there, c.n); got != c.want {
			t.Errorf("Most of %d, and %d gone behind, for %d: %d, not %d", c.there, c.gone, c.n, got, c.want)
		}
	}
}

func TestWhateverWordIsToldByTheNearest(t *testing.T) { // P5.1: none is missed, none is told that is too far off
	r := source()
	lost, found := 0, 0
	for range 4000 {
		n := 1 + r.IntN(4)
		k := r.IntN(7)
		whole := codeword(t, r, n, k)
		gone := r.IntN(k + 2)
		gone = min(gone, n+k)
		word, there, _ := harm(r, whole, gone, r.IntN(n+k-gone+1))
		if r.IntN(4) == 0 { // few unlike bytes: more words are near to one
			for i := range word {
				word[i] &= 1
			}
		}
		best, _ := nearest(word, there, n)
		check(t, word, there, n, best)
		if best == nil {
			lost++
		} else {
			found++
		}
	}
	if lost < 500 || found < 500 {
		t.Errorf("%d lost, %d found", lost, found)
	}
}

func TestEachWordOfTwoBytesThatTell(t *testing.T) { // P5.1: all bytes at one place, and then at two
	whole := []byte{5, 7, 1, 3, 13}
	for a := range 256 {
		for b := range 256 {
			word := slices.Clone(whole)
			word[1], word[4] = byte(a), byte(b)
			if a == 7 || b == 13 {
				check(t, word, all(5), 2, whole)
			} else if best, _ := nearest(word, all(5), 2); b%16 == 0 {
				check(t, word, all(5), 2, best)
			}
		}
	}
}

func TestAsManyAsMayBeAreTold(t *testing.T) { // P5.2, P3, P4
	r := source()
	for _, s := range [][2]int{{1, 0}, {1, 1}, {1, 2}, {1, 3}, {2, 1}, {2, 2}, {2, 5}, {3, 8}, {4, 4}, {5, 9}, {12, 3}, {6, 20}} {
		n, k := s[0], s[1]
		for gone := range k + 1 {
			for wrong := range (k-gone)/2 + 1 {
				for range 4 {
					whole := codeword(t, r, n, k)
					word, there, at := harm(r, whole, gone, wrong)
					check(t, word, there, n, whole)
					if got, _ := welch.Wrong(word, there, n); !slices.Equal(got, at) {
						t.Fatalf("%v, wrong at %v: %v", word, at, got)
					}
				}
			}
		}
	}
}

func TestOneMoreThanMayBe(t *testing.T) { // P5.1: at one more wrong byte than may be, the codeword that was isn't told, for it is too far off
	r := source()
	for _, s := range [][2]int{{1, 1}, {1, 2}, {2, 2}, {2, 3}, {3, 4}, {4, 6}, {5, 1}} {
		n, k := s[0], s[1]
		for range 60 {
			whole := codeword(t, r, n, k)
			gone := r.IntN(k + 1)
			word, there, _ := harm(r, whole, gone, (k-gone)/2+1)
			best, _ := nearest(word, there, n)
			if slices.Equal(best, whole) {
				t.Fatalf("%v, %v for %d", word, there, n)
			}
			check(t, word, there, n, best)
		}
	}
}

func TestHalfBetweenTwoCodewordsNoneIsTold(t *testing.T) { // P5.1
	for _, k := range []int{2, 4, 10, 254} {
		word := append(slices.Repeat([]byte{8}, k/2), slices.Repeat([]byte{9}, k/2)...)
		check(t, word, all(k), 1, nil)
		check(t, append(slices.Clone(word), 9), all(k+1), 1, slices.Repeat([]byte{9}, k+1))
	}
}

func TestLongWords(t *testing.T) { // P5.1, P5.2: 255 bytes
	r := source()
	for _, n := range []int{1, 2, 30, 128, 200, 251, 253, 254, 255} {
		k := 255 - n
		for _, gone := range []int{0, k / 3, k} {
			for _, wrong := range []int{0, (k - gone) / 4, (k - gone) / 2} {
				whole := codeword(t, r, n, k)
				word, there, _ := harm(r, whole, gone, wrong)
				check(t, word, there, n, whole)
			}
		}
	}
}

func TestOneByteMoreTellsJustThatOneIsWrong(t *testing.T) { // P5.1: half of one, let go, is none
	r := source()
	for _, n := range []int{1, 2, 30, 254} {
		word, there, _ := harm(r, codeword(t, r, n, 255-n), 254-n, 1)
		check(t, word, there, n, nil)
	}
}

func TestLongWordsThatAreLost(t *testing.T) { // P5.1
	r := source()
	for _, n := range []int{20, 128, 200, 240} { // of whatever bytes hardly any are near to a codeword
		check(t, some(r, 255), all(255), n, nil)
		word, there, _ := harm(r, codeword(t, r, n, 255-n), 10, 3+(255-10-n)/2)
		check(t, word, there, n, nil)
	}
}

func TestBytesThatAreGoneDontCount(t *testing.T) { // P5.1
	r := source()
	whole := codeword(t, r, 4, 6)
	there := all(10)
	there[1], there[8] = false, false
	for range 200 {
		word := slices.Clone(whole)
		word[1], word[8] = byte(r.IntN(256)), byte(r.IntN(256))
		word[3] ^= 1
		word[9] ^= 128
		check(t, word, there, 4, whole)
		if got, wrong, e := welch.Decode(word, there, 4); !slices.Equal(got, whole) || wrong != 2 || e != api.OK {
			t.Fatalf("%v: %v, %d, %d", word, got, wrong, e)
		}
	}
}

func TestWhatIsToldIsACodeword(t *testing.T) { // P4
	r := source()
	for range 300 {
		n, k := 1+r.IntN(10), r.IntN(12)
		word, there, _ := harm(r, codeword(t, r, n, k), r.IntN(k+1), r.IntN(n))
		got, wrong, e := welch.Decode(word, there, n)
		if e == api.OK && (!systematic.Is(got, n) || wrong > welch.Most(there, n) || wrong != differ(word, got, there)) {
			t.Fatalf("%v, %v for %d: %v, %d", word, there, n, got, wrong)
		}
	}
}

func TestRowsAreNeitherTurnedNorKept(t *testing.T) { // P2, and the rules that hold everywhere
	for _, c := range []struct {
		word  []byte
		there []bool
		n     int
	}{
		{[]byte{5, 7, 1, 9}, all(4), 2},
		{[]byte{5, 7, 1, 3}, all(4), 2},
		{[]byte{5, 7, 1, 3}, all(4), 4},
		{[]byte{0, 7, 9, 3, 13}, []bool{true, true, true, true, false}, 2},
		{[]byte{0, 0, 0}, all(3), 1},
	} {
		word, there := append(slices.Clone(c.word), 0xA5, 0xA5), append(slices.Clone(c.there), true, false)
		wantWord, wantThere := slices.Clone(word), slices.Clone(there)
		told, _, e := welch.Decode(word[:len(c.word)], there[:len(c.there)], c.n)
		at, _ := welch.Wrong(word[:len(c.word)], there[:len(c.there)], c.n)
		again, _, again2 := welch.Decode(word[:len(c.word)], there[:len(c.there)], c.n)
		welch.Most(there[:len(c.there)], c.n)
		if !slices.Equal(word, wantWord) || !slices.Equal(there, wantThere) {
			t.Fatalf("turned: %v, %v", word, there)
		}
		wantAt := slices.Clone(at)
		clear(word)
		clear(there)
		if e != again2 || !slices.Equal(told, again) || !slices.Equal(at, wantAt) {
			t.Errorf("%v: %v, %v", c.word, told, again)
		}
		room := told[:cap(told)]
		for i := range room {
			room[i] = 0xFF
		}
		if !slices.Equal(word, make([]byte, len(word))) {
			t.Errorf("%v: room is shared with an answer", c.word)
		}
	}
}
