package inflate_test

import (
	"bytes"
	"compress/flate"
	"math"
	"math/rand/v2"
	"slices"
	"strings"
	"testing"

	"footlocker/api"
	"footlocker/inflate"
)

// source tells the same numbers in each run.
func source() *rand.Rand { return rand.New(rand.NewPCG(15, 16)) }

// same tells whether Unpack and All answer what the chapter's words tell, and what that is.
func same(t *testing.T, b []byte, most int) api.Errno {
	t.Helper()
	out, n, e := inflate.Unpack(b, most)
	want, size, wantE := told(b, most)
	if !slices.Equal(out, want) || n != size || e != wantE {
		t.Fatalf("%x, at most %d: %x, %d, %d, not %x, %d, %d", b, most, out, n, e, want, size, wantE)
	}
	if e == api.OK && n < len(b) {
		want, wantE = nil, api.ErrMore
	}
	if all, e := inflate.All(b, most); !slices.Equal(all, want) || e != wantE {
		t.Fatalf("all of %x, at most %d: %x, %d, not %x, %d", b, most, all, e, want, wantE)
	}
	return e
}

// refused checks that an error is answered, and nothing with it.
func refused(t *testing.T, name string, b []byte, most int, want api.Errno) {
	t.Helper()
	if out, n, e := inflate.Unpack(b, most); len(out) != 0 || n != 0 || e != want {
		t.Errorf("%s (%x, at most %d): %x, %d, %d, not %d", name, b, most, out, n, e, want)
	}
	if out, e := inflate.All(b, most); len(out) != 0 || e != want {
		t.Errorf("all of %s (%x, at most %d): %x, %d, not %d", name, b, most, out, e, want)
	}
}

// right checks that bytes are unpacked, whatever stands behind, just as many being allowed, and one fewer not.
func right(t *testing.T, name string, b []byte, want []byte) {
	t.Helper()
	for _, most := range []int{len(want), len(want) + 1, math.MaxInt} {
		for _, behind := range [][]byte{nil, {0}, {0xFF, 0xFF, 0xFF}, b} {
			out, n, e := inflate.Unpack(slices.Concat(b, behind), most)
			if !bytes.Equal(out, want) || n != len(b) || e != api.OK {
				t.Fatalf("%s: %d bytes, %d, %d, not %d bytes, %d", name, len(out), n, e, len(want), len(b))
			}
		}
		if out, e := inflate.All(b, most); !bytes.Equal(out, want) || e != api.OK {
			t.Fatalf("all of %s: %d bytes, %d", name, len(out), e)
		}
		if out, e := inflate.All(append(slices.Clone(b), 0), most); len(out) != 0 || e != api.ErrMore {
			t.Fatalf("all of %s, and more: %d bytes, %d", name, len(out), e)
		}
	}
	if len(want) > 0 {
		refused(t, name, b, len(want)-1, api.ErrFull)
	}
}

// Parts of rows, as bits. A last block has a 1 ahead of its kind.
const (
	storedKind  = "00"
	fixedKind   = "10"
	dynamicKind = "01"
	noKind      = "11"
)

// store is a stored block behind a byte's end; filled is what is passed over of its first byte.
func store(last, filled, data string) string {
	text := last + storedKind + filled + num(len(data), 16) + num(len(data)^0xFFFF, 16)
	return text + unpacked([]byte(data))
}

// codesOf are what symbols are told by.
type codesOf struct{ lits, dists []string }

func fixedCodes() codesOf {
	lits, dists := fixedLists()
	return codesOf{written(lits), written(dists)}
}

// match is so many bytes again from so far back. A length of 258 may be told by 284, too.
func (c codesOf) match(length, dist int, by284 bool) string {
	s, value := coded(lengthMeans(), length)
	if by284 {
		s, value = 27, num(31, 5)
	}
	d, further := coded(distMeans(), dist)
	return c.lits[257+s] + value + c.dists[d] + further
}

// coded is the last code that means a number, and its further bits.
func coded(all []means, n int) (int, string) {
	at, bits := 0, ""
	for i, m := range all {
		if m.base <= n {
			at, bits = i, num(n-m.base, m.bits)
		}
	}
	return at, bits
}

// data is bytes by their own codes.
func (c codesOf) data(text string) string {
	all := ""
	for _, v := range []byte(text) {
		all += c.lits[v]
	}
	return all
}

func (c codesOf) end() string { return c.lits[256] }

// wide are lengths of lengths by which each of these can be told.
func wide() []int {
	return []int{4, 4, 4, 4, 4, 4, 4, 4, 4, 4, 4, 4, 4, 5, 5, 5, 5, 5, 5}
}

// head is the numbers that a dynamic block begins with.
func head(last string, lits, dists, count int) string {
	return last + dynamicKind + num(lits-257, 5) + num(dists-1, 5) + num(count-4, 4)
}

// few are lengths of lengths, as far as they are told.
func few(list []int, count int) string {
	text := ""
	for _, s := range order[:count] {
		text += num(list[s], 3)
	}
	return text
}

// lens are lengths, each one told by itself.
func lens(list ...int) string {
	codes, text := written(wide()), ""
	for _, n := range list {
		text += codes[n]
	}
	return text
}

// run is a length's code that tells several, and its further bits.
func run(s, v, bits int) string { return written(wide())[s] + num(v, bits) }

// own is a dynamic block's beginning: each length is told by itself.
func own(last string, lits, dists []int) string {
	return head(last, len(lits), len(dists), 19) + few(wide(), 19) + lens(lits...) + lens(dists...)
}

// lits are literal lengths, as many as asked for, of which some aren't 0.
func lits(count int, of map[int]int) []int {
	list := make([]int, count)
	for s, n := range of {
		list[s] = n
	}
	return list
}

func TestTheExample(t *testing.T) { // P12.1
	right(t, "the example", []byte{0x01, 0x01, 0x00, 0xFE, 0xFF, 0x41}, []byte("A"))
	right(t, "the whole's example", []byte{0x73, 0x04, 0x00}, []byte("A"))
}

func TestStoredBlocks(t *testing.T) { // P12.1
	long := strings.Repeat("0123456789ABCDE", 4369)
	for _, c := range []struct{ name, row, want string }{
		{"none", store("1", "00000", ""), ""},
		{"one", store("1", "00000", "x"), "x"},
		{"what is passed over", store("1", "11111", "x"), "x"},
		{"a none ahead", store("0", "10101", "") + store("1", "00000", "x"), "x"},
		{"two", store("0", "00000", "ab") + store("1", "00000", "cd"), "abcd"},
		{"the longest", store("1", "00000", long), long},
		{"behind a fixed one", "0" + fixedKind + fixedCodes().data("a") + fixedCodes().end() + store("1", "000", "b"), "ab"},
		{"just at a byte's end", "0" + fixedKind + fixedCodes().data("\xFF\xFF\xFF") + fixedCodes().end() + store("1", "", "b"), "\xFF\xFF\xFFb"},
	} {
		right(t, c.name, packed(c.row), []byte(c.want))
	}
}

func TestStoredBlocksThatAreWrong(t *testing.T) { // P12.1
	begun := "1" + storedKind + "00000"
	for _, c := range []struct {
		name, row string
		most      int
		want      api.Errno
	}{
		{"no number", begun, 9, api.ErrShort},
		{"half a number", begun + num(1, 8), 9, api.ErrShort},
		{"one number", begun + num(1, 16), 9, api.ErrShort},
		{"one and a half", begun + num(1, 16) + num(0xFE, 8), 9, api.ErrShort},
		{"the wrong half", begun + num(1, 16) + num(0xFF, 8), 9, api.ErrShort},
		{"other numbers", begun + num(1, 16) + num(0xFFFF, 16) + num('x', 8), 9, api.ErrStored},
		{"the same numbers", begun + num(1, 16) + num(1, 16) + num('x', 8), 9, api.ErrStored},
		{"one bit not turned", begun + num(1, 16) + num(0x7FFE, 16) + num('x', 8), 9, api.ErrStored},
		{"ahead of the bytes' end", begun + num(9, 16) + num(9, 16), 9, api.ErrStored},
		{"ahead of too many", begun + num(9, 16) + num(9, 16) + num(0, 72), 0, api.ErrStored},
		{"no byte", begun + num(1, 16) + num(0xFFFE, 16), 9, api.ErrShort},
		{"one byte of two", begun + num(2, 16) + num(0xFFFD, 16) + num('x', 8), 9, api.ErrShort},
		{"no byte, nor room", begun + num(1, 16) + num(0xFFFE, 16), 0, api.ErrShort},
		{"a byte, but no room", begun + num(1, 16) + num(0xFFFE, 16) + num('x', 8), 0, api.ErrFull},
		{"a byte of two, but no room", begun + num(2, 16) + num(0xFFFD, 16) + num('x', 8), 0, api.ErrFull},
		{"as many as there is room for, and one missing", begun + num(3, 16) + num(0xFFFC, 16) + num(0, 16), 2, api.ErrShort},
		{"one more than there is room for, and one missing", begun + num(4, 16) + num(0xFFFB, 16) + num(0, 24), 2, api.ErrFull},
		{"fewer than there is room for", begun + num(4, 16) + num(0xFFFB, 16) + num(0, 24), 4, api.ErrShort},
		{"room that is taken already", store("0", "00000", "ab") + store("1", "00000", "c"), 2, api.ErrFull},
		{"no further block", store("0", "00000", "ab"), 2, api.ErrShort},
		{"room below nought", store("1", "00000", "a"), math.MinInt, api.ErrFull},
	} {
		refused(t, c.name, packed(c.row), c.most, c.want)
	}
}

func TestFixedBlocks(t *testing.T) { // P12.1
	f := fixedCodes()
	every := ""
	for v := range 256 {
		every += string([]byte{byte(v)})
	}
	right(t, "none", packed("1", fixedKind, f.end()), nil)
	right(t, "every byte", packed("1", fixedKind, f.data(every), f.end()), []byte(every))
	right(t, "two blocks", packed("0", fixedKind, f.data("a"), f.end(), "1", fixedKind, f.data("b"), f.end()), []byte("ab"))
	right(t, "from the block ahead", packed(store("0", "00000", "ab"), "1", fixedKind, f.match(5, 2, false), f.end()), []byte("abababa"))
	right(t, "blocks without bytes", packed(strings.Repeat("0"+fixedKind+f.end(), 4000), "1", fixedKind, f.end()), nil)
}

func TestEveryLength(t *testing.T) { // P12.1
	f := fixedCodes()
	for length := 3; length <= 258; length++ {
		want := bytes.Repeat([]byte("ab"), 200)[:2+length]
		right(t, "a length", packed("1", fixedKind, f.data("ab"), f.match(length, 2, false), f.end()), want)
	}
	right(t, "258 by 284", packed("1", fixedKind, f.data("ab"), f.match(258, 2, true), f.end()), bytes.Repeat([]byte("ab"), 130))
}

func TestEveryDistance(t *testing.T) { // P12.1
	f := fixedCodes()
	r := source()
	ahead := make([]byte, 40000)
	for i := range ahead {
		ahead[i] = byte(r.IntN(256))
	}
	begun := store("0", "00000", string(ahead))
	for at, m := range distMeans() {
		last := m.base + 1<<m.bits - 1
		for _, dist := range []int{m.base, m.base + r.IntN(1<<m.bits), last} {
			want := slices.Clone(ahead)
			for range 7 {
				want = append(want, want[len(want)-dist])
			}
			out, e := inflate.All(packed(begun, "1", fixedKind, f.match(7, dist, false), f.end()), len(want))
			if !bytes.Equal(out, want) || e != api.OK {
				t.Fatalf("the distance %d, of code %d: %d bytes, %d", dist, at, len(out), e)
			}
		}
	}
}

func TestFixedBlocksThatAreWrong(t *testing.T) { // P12.1
	f := fixedCodes()
	begun := "1" + fixedKind
	_, far := coded(distMeans(), 32768)
	for _, c := range []struct {
		name, row string
		most      int
		want      api.Errno
	}{
		{"no end", begun + f.data("ab"), 2, api.ErrShort},
		{"within a code", begun + f.data("\xFF")[:5], 2, api.ErrShort},
		{"the symbol 286", begun + f.lits[286] + f.end(), 9, api.ErrSymbol},
		{"the symbol 287", begun + f.data("aaa") + f.lits[287] + f.end(), 9, api.ErrSymbol},
		{"the symbol 287 without room", begun + f.lits[287], 0, api.ErrSymbol},
		{"no distance", begun + f.data("\xFF\xFF") + f.lits[257+20], 9, api.ErrShort},
		{"the distance 30", begun + f.data("a") + f.lits[257] + f.dists[30] + f.end(), 9, api.ErrSymbol},
		{"the distance 31", begun + f.data("a") + f.lits[257] + f.dists[31] + f.end(), 9, api.ErrSymbol},
		{"the distance 31 without room", begun + f.lits[257] + f.dists[31], 0, api.ErrSymbol},
		{"from ahead of nothing", begun + f.match(3, 1, false) + f.end(), 9, api.ErrFar},
		{"from one ahead", begun + f.data("ab") + f.match(3, 3, false) + f.end(), 9, api.ErrFar},
		{"from the farthest", begun + f.data("ab") + f.lits[257] + f.dists[29] + far + f.end(), 9, api.ErrFar},
		{"too far, and no room", begun + f.data("ab") + f.match(3, 3, false) + f.end(), 2, api.ErrFar},
		{"too far, of nothing", begun + f.match(258, 9, false) + f.end(), -1, api.ErrFar},
		{"no room for a byte", begun + f.data("ab") + f.end(), 1, api.ErrFull},
		{"no room for any byte", begun + f.data("ab"), 0, api.ErrFull},
		{"room below nought", begun + f.data("a") + f.end(), -1, api.ErrFull},
		{"no room for a match", begun + f.data("ab") + f.match(3, 1, false) + f.end(), 2, api.ErrFull},
		{"no room for all of a match", begun + f.data("ab") + f.match(4, 1, false), 5, api.ErrFull},
		{"no room ahead of the kind 3", begun + f.data("ab"), 1, api.ErrFull},
	} {
		refused(t, c.name, packed(c.row), c.most, c.want)
	}
}

func TestBlocksOfNoKind(t *testing.T) { // P12.1
	f := fixedCodes()
	refused(t, "kind 3", packed("1", noKind), 9, api.ErrBlock)
	refused(t, "kind 3, not the last", packed("0", noKind), 9, api.ErrBlock)
	refused(t, "kind 3, no room", packed("1", noKind), -1, api.ErrBlock)
	refused(t, "kind 3 behind", packed(store("0", "00000", "a"), "1", noKind), 9, api.ErrBlock)
	refused(t, "too much ahead of kind 3", packed(store("0", "00000", "a"), "1", noKind), 0, api.ErrFull)
	refused(t, "nothing", nil, 9, api.ErrShort)
	refused(t, "nothing, and no room", []byte{}, math.MinInt, api.ErrShort)
	for fill := range 8 { // so that one, two or none of the bits that a block begins with are there
		row := "0" + fixedKind + f.data(strings.Repeat("\xFF", fill)) + f.end()
		same(t, packed(row), 9)
		same(t, packed(row, noKind), 9)
		same(t, packed(row, "1"+fixedKind), 9)
	}
}

func TestDynamicBlocks(t *testing.T) { // P12.1
	alone := lits(257, map[int]int{256: 1})
	short := lits(258, map[int]int{'a': 2, 'b': 2, 256: 2, 257: 2})
	all := slices.Concat(slices.Repeat([]int{8}, 226), slices.Repeat([]int{9}, 60))
	many := slices.Concat(slices.Repeat([]int{5}, 28), slices.Repeat([]int{4}, 2))
	one := codesOf{written(short), []string{"0"}}
	wideOnes := codesOf{written(all), written(many)}
	for _, c := range []struct{ name, row, want string }{
		{"the end alone", own("1", alone, []int{0}) + "0", ""},
		{"the end alone, and a distance", own("1", alone, []int{1}) + "0", ""},
		{"the end alone, and two", own("1", alone, []int{1, 1}) + "0", ""},
		{"bytes", own("1", short, []int{0}) + one.data("abba") + one.end(), "abba"},
		{"one distance", own("1", short, []int{1}) + one.data("ab") + one.match(3, 1, false) + one.end(), "abbbb"},
		{"another distance alone", own("1", short, []int{0, 1}) + one.data("ab") + one.lits[257] + "0" + one.end(), "ababa"},
		{"the most lengths", own("1", all, many) + wideOnes.data("ab") + wideOnes.match(258, 2, false) + wideOnes.end(), strings.Repeat("ab", 130)},
		{"two, with codes of their own", own("0", short, []int{1}) + one.data("ab") + one.end() + own("1", all, many) + wideOnes.match(6, 2, false) + wideOnes.end(), "abababab"},
		{"a fixed one between", own("0", short, []int{1}) + one.data("ab") + one.end() + "0" + fixedKind + fixedCodes().match(3, 2, false) + fixedCodes().end() + own("1", short, []int{1}) + one.match(3, 1, false) + one.end(), "ababaaaa"},
	} {
		right(t, c.name, packed(c.row), []byte(c.want))
	}
}

// bare is a dynamic block's beginning, up to the lengths, by codes that can tell all of these.
func bare(lits, dists int) string { return head("1", lits, dists, 19) + few(wide(), 19) }

func TestRunsOfLengths(t *testing.T) { // P12.1
	none := run(18, 127, 7) // 138 times 0
	for _, c := range []struct{ name, row, want string }{
		{"0, 11 to 138 times", bare(257, 1) + none + run(18, 107, 7) + lens(1, 0) + "0", ""},
		{"0, 3 to 10 times", bare(257, 1) + none + run(18, 96, 7) + run(17, 7, 3) + lens(0, 1, 0) + "0", ""},
		{"the fewest", bare(257, 1) + none + run(18, 93, 7) + run(18, 0, 7) + run(17, 0, 3) + lens(1, 0) + "0", ""},
		{"again, from what a run told", bare(257, 1) + none + run(18, 101, 7) + run(16, 3, 2) + lens(1, 0) + "0", ""},
		{"again, of a length", bare(260, 1) + none + run(18, 107, 7) + lens(2) + run(16, 0, 2) + lens(0) + written([]int{2, 2, 2, 2})[0], ""},
		{"again, beyond the literal lengths", bare(258, 2) + none + run(18, 107, 7) + lens(1) + run(16, 0, 2) + "0", ""},
		{"nought, beyond the literal lengths", bare(257, 3) + none + run(18, 107, 7) + lens(1) + run(17, 0, 3) + "0", ""},
		{"up to the end, nought", bare(257, 30) + none + run(18, 107, 7) + lens(1) + run(18, 19, 7) + "0", ""},
	} {
		right(t, c.name, packed(c.row), []byte(c.want))
	}
	to256 := none + run(18, 107, 7)
	for _, c := range []struct {
		name, row string
		want      api.Errno
	}{
		{"again at once", bare(257, 1) + run(16, 0, 2), api.ErrSymbol},
		{"again at once, and the end", bare(257, 1) + run(16, 0, 0), api.ErrSymbol},
		{"again, one beyond all", bare(257, 3) + to256 + lens(1) + run(16, 1, 2), api.ErrRange},
		{"3 to 10, one beyond all", bare(257, 3) + to256 + lens(1) + run(17, 1, 3), api.ErrRange},
		{"3 to 10, at the last", bare(257, 1) + to256 + lens(1) + run(17, 0, 3), api.ErrRange},
		{"11 to 138, one beyond all", bare(257, 11) + to256 + lens(1) + run(18, 1, 7), api.ErrRange},
		{"beyond all, and no end", bare(257, 1) + none + run(18, 110, 7) + run(17, 0, 3), api.ErrRange},
		{"beyond all, ahead of wrong lengths", bare(257, 1) + lens(1, 1, 1) + none + none, api.ErrRange},
	} {
		refused(t, c.name, packed(c.row), 9, c.want)
	}
}

func TestRunsThatEnd(t *testing.T) { // P12.1: what tells how many times is read ahead of what is beyond all
	begun := bare(257, 1) + run(18, 127, 7) + run(18, 105, 7)
	for fill := range 8 { // so many lengths of 0, to end the bytes within a run
		row := bare(257, 1) + strings.Repeat(lens(0), fill) + run(18, 127, 7)
		for cut := range 16 {
			same(t, packed(row[:len(row)-cut]), 9)
		}
	}
	for cut := range 12 {
		for _, behind := range []string{run(18, 127, 7), run(17, 7, 3), run(16, 3, 2)} {
			same(t, packed(begun, behind[:max(len(behind)-cut, 0)]), 9)
		}
	}
}

func TestDynamicBlocksThatAreWrong(t *testing.T) { // P12.1, P1: the first that is met
	begun := func(of ...int) string { // lengths of lengths, by the order of what they are of
		list := make([]int, 19)
		for i := 0; i < len(of); i += 2 {
			list[of[i]] = of[i+1]
		}
		return head("1", 257, 1, 19) + few(list, 19)
	}
	full := slices.Repeat([]int{8}, 255)
	end := lits(257, map[int]int{256: 1})
	for _, c := range []struct {
		name, row string
		want      api.Errno
	}{
		{"287 literal lengths", head("1", 287, 1, 19), api.ErrRange},
		{"288 literal lengths", head("1", 288, 1, 4), api.ErrRange},
		{"31 distance lengths", head("1", 257, 31, 4), api.ErrRange},
		{"32 distance lengths", head("1", 286, 32, 19), api.ErrRange},
		{"many, ahead of wrong lengths of lengths", head("1", 287, 31, 4) + "111111111111", api.ErrRange},
		{"many, but no third number", head("1", 288, 32, 19)[:16], api.ErrShort},
		{"the numbers alone", head("1", 286, 30, 19)[:16], api.ErrShort},
		{"no lengths of lengths", head("1", 286, 30, 19), api.ErrShort},
		{"some lengths of lengths", head("1", 286, 30, 19) + few(wide(), 18), api.ErrShort},
		{"no codes", begun(), api.ErrSymbol},
		{"no codes, and bits", begun() + "0000000000", api.ErrSymbol},
		{"too many codes", begun(0, 1, 1, 1, 2, 1), api.ErrOver},
		{"too many codes, and bits", begun(0, 7, 1, 1, 2, 1) + "0000", api.ErrOver},
		{"too few codes", begun(0, 2, 1, 1), api.ErrUnder},
		{"one code that is too long", begun(18, 2), api.ErrUnder},
		{"one code, by whose bits there is none", begun(18, 1) + "1", api.ErrSymbol},
		{"no lengths", bare(257, 1), api.ErrShort},
		{"no end", own("1", lits(257, map[int]int{'a': 1, 'b': 1}), []int{1}), api.ErrForm},
		{"no end, ahead of too many", own("1", lits(257, map[int]int{'a': 1, 'b': 1, 'c': 1}), []int{1}), api.ErrForm},
		{"no end, ahead of too few", own("1", lits(257, map[int]int{'a': 2}), []int{2}), api.ErrForm},
		{"no codes at all", own("1", make([]int, 257), []int{0}), api.ErrForm},
		{"no end, but such a distance", own("1", make([]int, 257), []int{1}), api.ErrForm},
		{"too many literals", own("1", slices.Concat(full, []int{8, 7}), []int{2}), api.ErrOver},
		{"too few literals", own("1", slices.Concat(full, []int{0, 9}), []int{1, 1, 1}), api.ErrUnder},
		{"one literal that is too long", own("1", lits(257, map[int]int{256: 2}), []int{1}), api.ErrUnder},
		{"too many distances", own("1", end, []int{1, 1, 1}), api.ErrOver},
		{"too few distances", own("1", end, []int{1, 2}), api.ErrUnder},
		{"one distance that is too long", own("1", end, []int{15}), api.ErrUnder},
		{"no code of the bits", own("1", end, []int{0}) + "1", api.ErrSymbol},
		{"a length, but no distances", own("1", lits(258, map[int]int{256: 1, 257: 1}), []int{0}) + "1", api.ErrSymbol},
		{"a length, and another distance", own("1", lits(258, map[int]int{256: 1, 257: 1}), []int{1}) + "11", api.ErrSymbol},
		{"a length from ahead", own("1", lits(258, map[int]int{256: 1, 257: 1}), []int{1}) + "10", api.ErrFar},
	} {
		refused(t, c.name, packed(c.row), 9, c.want)
	}
	refused(t, "no room", packed(own("1", lits(257, map[int]int{'a': 1, 256: 1}), []int{0}), "0"), 0, api.ErrFull)
}

func TestFewLengthsOfLengths(t *testing.T) { // P12.1: those that aren't told are 0
	f := lits(257, map[int]int{256: 1})
	for count := 5; count <= 19; count++ {
		for _, s := range order[:count] {
			list := make([]int, 19)
			list[s]++
			list[order[(slices.Index(order, s)+1)%count]]++
			same(t, packed(head("1", 257, 1, count), few(list, count), strings.Repeat("01", 300)), 99)
			same(t, packed(head("1", 257, 1, count), few(list, count), strings.Repeat("0", 600)), 99)
		}
	}
	list := make([]int, 19)
	list[0], list[1], list[18] = 2, 1, 2
	codes := written(list)
	row := head("1", 257, 1, 18) + few(list, 18)
	for _, n := range append(f, 0) {
		row += codes[n]
	}
	right(t, "eighteen", packed(row, "0"), nil)
}

func TestAllShortRows(t *testing.T) { // P12.1, P1
	for _, most := range []int{math.MinInt, 0, 1, 2, math.MaxInt} {
		same(t, nil, most)
		for first := range 256 {
			same(t, []byte{byte(first)}, most)
		}
	}
	for first := range 256 {
		for next := range 256 {
			same(t, []byte{byte(first), byte(next)}, 3)
			same(t, []byte{byte(first), byte(next), 0}, 2)
		}
	}
}

// texts are bytes of several kinds.
func texts() [][]byte {
	r := source()
	var any, low, far []byte
	for range 3000 {
		any = append(any, byte(r.IntN(256)))
		low = append(low, byte('a'+r.IntN(3)))
	}
	far = slices.Concat(any[:600], make([]byte, 33000), any[:600], low)
	return [][]byte{nil, {0}, []byte("abcabcabc"), []byte(strings.Repeat("to be or not to be, ", 40)), bytes.Repeat([]byte{7}, 5000), low, any, far}
}

// pack is what the library of Go packs.
func pack(t *testing.T, b []byte, level int) []byte {
	t.Helper()
	var row bytes.Buffer
	w, err := flate.NewWriter(&row, level)
	if err != nil {
		t.Fatal(err)
	}
	half := len(b) / 2
	w.Write(b[:half])
	w.Flush()
	w.Write(b[half:])
	if err := w.Close(); err != nil {
		t.Fatal(err)
	}
	return row.Bytes()
}

func TestWhatOthersPack(t *testing.T) { // P12.1, P3
	for _, b := range texts() {
		for _, level := range []int{flate.HuffmanOnly, 0, 1, 5, 9} {
			row := pack(t, b, level)
			right(t, "what is packed", row, b)
			for cut := range min(len(row), 300) {
				refused(t, "what is cut off", row[:cut], len(b), api.ErrShort)
				refused(t, "what is cut off", row[:len(row)-1-cut], len(b), api.ErrShort)
			}
		}
	}
}

func TestAGreatRow(t *testing.T) { // P12.1
	b := bytes.Repeat([]byte("a great row, "), 1<<20/13)
	right(t, "a great row", pack(t, b, 9), b)
	right(t, "a great stored row", pack(t, b, 0), b)
}

// anyHead is a dynamic block's beginning with lengths of lengths that are often right, and lengths that begin so.
func anyHead(r *rand.Rand) string {
	list := make([]int, 19)
	if r.IntN(8) == 0 {
		for i := range list {
			list[i] = r.IntN(8)
		}
	} else {
		list = anyLengths(r, 19, 7)
	}
	text := head("1", 257+r.IntN(31), 1+r.IntN(31), 19) + few(list, 19)
	codes := written(list)
	for range r.IntN(400) {
		text += codes[r.IntN(19)]
	}
	return text
}

// anyLengths are lengths that fill up what there is: each code in turn is made two.
func anyLengths(r *rand.Rand, count, longest int) []int {
	var row []int
	row = append(row, 1, 1)
	for range r.IntN(count - 1) {
		at := r.IntN(len(row))
		if row[at] < longest {
			row[at]++
			row = append(row, row[at])
		}
	}
	row = append(row, make([]int, count-len(row))...)
	r.Shuffle(count, func(i, k int) { row[i], row[k] = row[k], row[i] })
	return row
}

// anyOwn is a dynamic block whose lengths are right, or turned a little, and bits behind it.
func anyOwn(r *rand.Rand) string {
	lits, dists := anyLengths(r, 257+r.IntN(30), 15), anyLengths(r, 2+r.IntN(29), 15)
	if r.IntN(8) > 0 && lits[256] == 0 {
		at := slices.IndexFunc(lits, func(n int) bool { return n > 0 })
		lits[256], lits[at] = lits[at], 0
	}
	switch r.IntN(6) {
	case 0:
		lits[r.IntN(len(lits))] = r.IntN(16)
	case 1:
		dists[r.IntN(len(dists))] = r.IntN(16)
	case 2:
		clear(dists)
		dists[0] = r.IntN(2)
	}
	text := own(num(r.IntN(2), 1), lits, dists)
	for range r.IntN(600) {
		text += num(r.IntN(2), 1)
	}
	return text
}

func TestRowsOfAllKinds(t *testing.T) { // P12.1, P1: each error comes
	r := source()
	seen := map[api.Errno]int{}
	for range 1500 {
		head, own := packed(anyHead(r)), packed(anyOwn(r))
		for _, b := range [][]byte{head, own, slices.Concat(packed(store("0", "00000", "some bytes ahead")), own)} {
			seen[same(t, b, r.IntN(400)-10)]++
			seen[same(t, b[:r.IntN(len(b))], r.IntN(1000))]++
		}
	}
	for range 4000 {
		b := make([]byte, r.IntN(40))
		for i := range b {
			b[i] = byte(r.IntN(256))
		}
		seen[same(t, b, r.IntN(50))]++
	}
	for _, e := range []api.Errno{api.OK, api.ErrShort, api.ErrBlock, api.ErrStored, api.ErrRange, api.ErrSymbol, api.ErrForm, api.ErrOver, api.ErrUnder, api.ErrFar, api.ErrFull} {
		if seen[e] == 0 {
			t.Errorf("the error %d doesn't come: %v", e, seen)
		}
	}
}

func TestRowsThatAreTurned(t *testing.T) { // P12.1, P1
	r := source()
	for _, b := range texts() {
		b = b[:min(len(b), 1200)]
		for _, level := range []int{flate.HuffmanOnly, 0, 9} {
			row := pack(t, b, level)
			for range 60 {
				turned := slices.Clone(row)
				for range 1 + r.IntN(3) {
					turned[r.IntN(min(len(turned), 1+r.IntN(200)))] ^= 1 << r.IntN(8)
				}
				same(t, turned, r.IntN(2*len(b)+2))
			}
		}
	}
}

func TestNoLongerThanMost(t *testing.T) { // P12.2
	for _, b := range texts() {
		b = b[:min(len(b), 700)]
		row := pack(t, b, 6)
		for most := -2; most < len(b)+3; most++ {
			out, n, e := inflate.Unpack(row, most)
			switch {
			case max(most, 0) >= len(b) && (!bytes.Equal(out, b) || n != len(row) || e != api.OK):
				t.Fatalf("at most %d of %d: %d, %d, %d", most, len(b), len(out), n, e)
			case max(most, 0) < len(b) && (len(out) != 0 || n != 0 || e != api.ErrFull):
				t.Fatalf("at most %d of %d: %d, %d, %d", most, len(b), len(out), n, e)
			}
		}
	}
}

func TestHangsOnWhatItTakes(t *testing.T) { // P12.2
	r := source()
	took := 0
	for range 400 {
		b := slices.Concat(packed(store("0", "00000", "some bytes ahead")), packed(anyOwn(r)), packed(anyOwn(r)))
		out, n, e := inflate.Unpack(b, 1<<20)
		if e != api.OK {
			continue
		}
		took++
		for range 5 {
			other := slices.Clone(b[:n+r.IntN(len(b)-n+1)])
			for i := n; i < len(other); i++ {
				other[i] = byte(r.IntN(256))
			}
			if again, k, e := inflate.Unpack(other, 1<<20); !slices.Equal(again, out) || k != n || e != api.OK {
				t.Fatalf("%x takes %d, but answers another thing for %x", b, n, other)
			}
		}
		refused(t, "what it takes, less one", b[:n-1], 1<<20, api.ErrShort)
	}
	if took < 20 {
		t.Errorf("%d rows alone are right", took)
	}
	last := packed("1", fixedKind, fixedCodes().data("a"), fixedCodes().end()) // 18 bits
	for fill := range 64 {
		right(t, "bits behind the end", []byte{last[0], last[1], last[2] | byte(fill<<2)}, []byte("a"))
	}
}

func TestNeitherTurnedNorKept(t *testing.T) { // P2, and the rules that hold everywhere
	f := fixedCodes()
	for _, row := range [][]byte{
		packed(store("1", "00000", "abcd")),
		packed("1", fixedKind, f.data("abcd"), f.end()),
		packed(own("1", lits(257, map[int]int{'a': 3, 'b': 3, 'c': 3, 'd': 3, 256: 1}), []int{0}), written(lits(257, map[int]int{'a': 3, 'b': 3, 'c': 3, 'd': 3, 256: 1}))['a'], "101", "110", "111", "0"),
	} {
		room := append(slices.Clone(row), 77, 78, 79)
		before := slices.Clone(room)
		b := room[:len(row)]
		out, _, e := inflate.Unpack(b, 9)
		all, allE := inflate.All(b, 9)
		if string(out) != "abcd" || e != api.OK || string(all) != "abcd" || allE != api.OK {
			t.Fatalf("%x: %q, %d, %q, %d", row, out, e, all, allE)
		}
		for _, answer := range [][]byte{out, all} {
			spare := answer[:cap(answer)]
			for i := range spare {
				spare[i] = 0xEE
			}
			if !slices.Equal(room, before) {
				t.Fatalf("%x: what was handed in is turned: %x", row, room)
			}
			if again, e := inflate.All(b, 9); string(again) != "abcd" || e != api.OK {
				t.Fatalf("%x: what was answered is kept: %q, %d", row, again, e)
			}
		}
		again, _, _ := inflate.Unpack(b, 9)
		clear(room)
		if string(again) != "abcd" {
			t.Fatalf("%x: what was handed in is kept: %q", row, again)
		}
	}
}
