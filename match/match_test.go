package match_test

import (
	"bytes"
	"math"
	"math/rand/v2"
	"slices"
	"strings"
	"testing"

	"footlocker/api"
	"footlocker/match"
)

// source tells the same numbers in each run.
func source() *rand.Rand { return rand.New(rand.NewPCG(25, 26)) }

// lit is a byte's token, and back a match.
func lit(v byte) api.Token          { return api.Token{Lit: v} }
func back(size, dist int) api.Token { return api.Token{Len: size, Dist: dist} }
func lits(text string) (ts []api.Token) {
	for i := range len(text) {
		ts = append(ts, lit(text[i]))
	}
	return ts
}

// expanded is Expand by the chapter's words, byte by byte.
func expanded(ts []api.Token, most int) ([]byte, api.Errno) {
	out := []byte{}
	for _, t := range ts {
		if t.Len != 0 {
			if t.Len < 3 || 258 < t.Len || t.Dist < 1 || 32768 < t.Dist {
				return nil, api.ErrRange
			}
			if t.Dist > len(out) {
				return nil, api.ErrFar
			}
		}
		from := len(out) - t.Dist
		for i := range max(t.Len, 1) {
			if len(out)+1 > max(most, 0) {
				return nil, api.ErrFull
			}
			if t.Len == 0 {
				out = append(out, t.Lit)
			} else {
				out = append(out, out[from+i])
			}
		}
	}
	return out, api.OK
}

// likewise checks that Expand answers what the chapter's words tell, and says what that is.
func likewise(t *testing.T, ts []api.Token, most int) api.Errno {
	t.Helper()
	out, e := match.Expand(ts, most)
	want, wantE := expanded(ts, most)
	if !bytes.Equal(out, want) || e != wantE {
		t.Fatalf("%+v, at most %d: %x, %d, not %x, %d", ts, most, out, e, want, wantE)
	}
	return e
}

func TestTheExample(t *testing.T) { // P13.1
	want := append(lits("abc"), back(6, 3))
	for level := 1; level <= 10; level++ {
		if ts := match.Find([]byte("abcabcabc"), level); !slices.Equal(ts, want) {
			t.Errorf("level %d: %+v", level, ts)
		}
	}
	if out, e := match.Expand(want, 9); string(out) != "abcabcabc" || e != api.OK {
		t.Errorf("%q, %d", out, e)
	}
}

// odd are tokens right and wrong, at and beside each bound.
func odd() []api.Token {
	all := []api.Token{lit('a'), lit('b'), {Lit: 'c', Dist: -1}, {Lit: 'd', Dist: math.MaxInt}, {Lit: 'e', Dist: 2}}
	for _, size := range []int{math.MinInt, -258, -3, -1, 1, 2, 3, 4, 258, 259, math.MaxInt} {
		for _, dist := range []int{math.MinInt, -1, 0, 1, 2, 3, 32768, 32769, math.MaxInt} {
			all = append(all, api.Token{Lit: 'x', Len: size, Dist: dist})
		}
	}
	return all
}

func TestExpandOfAllPairs(t *testing.T) { // P13.1
	seen := map[api.Errno]int{}
	for _, a := range odd() {
		for _, b := range odd() {
			for _, most := range []int{math.MinInt, -1, 0, 1, 2, 4, 5, 6, 258, 259, 260, math.MaxInt} {
				seen[likewise(t, []api.Token{a, b}, most)]++
				seen[likewise(t, []api.Token{lit('p'), a, b}, most)]++
			}
		}
	}
	for _, e := range []api.Errno{api.OK, api.ErrRange, api.ErrFar, api.ErrFull} {
		if seen[e] < 100 {
			t.Errorf("error %d: %d times", e, seen[e])
		}
	}
}

func TestExpandOfLongRows(t *testing.T) { // P13.1
	r := source()
	for range 20000 {
		var ts []api.Token
		for range r.IntN(12) {
			switch r.IntN(9) {
			case 0:
				ts = append(ts, odd()[r.IntN(104)])
			case 1, 2, 3:
				ts = append(ts, back(3+r.IntN(9), 1+r.IntN(6)))
			default:
				ts = append(ts, lit(byte(r.Uint32())))
			}
		}
		likewise(t, ts, r.IntN(40)-2)
		likewise(t, ts, math.MaxInt)
	}
}

func TestExpandMeetsTheFirstFirst(t *testing.T) { // P13.1
	wrong, far := back(2, 1), back(3, 9)
	for _, c := range []struct {
		ts   []api.Token
		most int
		want api.Errno
	}{
		{[]api.Token{lit('a'), far, wrong}, 9, api.ErrFar},
		{[]api.Token{lit('a'), wrong, far}, 9, api.ErrRange},
		{[]api.Token{lit('a'), wrong}, 0, api.ErrFull},
		{[]api.Token{lit('a'), far}, 0, api.ErrFull},
		{[]api.Token{lit('a'), wrong}, 1, api.ErrRange},
		{[]api.Token{lit('a'), far}, 1, api.ErrFar},
		{[]api.Token{lit('a'), back(3, 1), wrong}, 3, api.ErrFull},
		{[]api.Token{lit('a'), back(3, 1), wrong}, 4, api.ErrRange},
		{[]api.Token{back(259, 40000)}, -1, api.ErrRange},
		{[]api.Token{back(258, 32768)}, -1, api.ErrFar},
	} {
		if out, e := match.Expand(c.ts, c.most); len(out) != 0 || e != c.want {
			t.Errorf("%+v, at most %d: %x, %d, not %d", c.ts, c.most, out, e, c.want)
		}
	}
}

func TestExpandFromTheWindowsEnd(t *testing.T) { // P13.1
	for _, ahead := range []int{32767, 32768, 32769} {
		var ts []api.Token
		for i := range ahead {
			ts = append(ts, lit(byte(i*i>>3)))
		}
		e := likewise(t, append(ts, back(258, 32768)), math.MaxInt)
		if (e == api.OK) != (ahead >= 32768) || e != api.OK && e != api.ErrFar {
			t.Errorf("%d ahead: %d", ahead, e)
		}
		if e := likewise(t, append(ts, back(258, 32769)), math.MaxInt); e != api.ErrRange {
			t.Errorf("%d ahead, from beyond the window: %d", ahead, e)
		}
	}
}

// alike is Same by the chapter's words.
func alike(b []byte, i, k int) int {
	n := 0
	for 0 <= i && 0 <= k && i+n < len(b) && k+n < len(b) && n < 258 && b[i+n] == b[k+n] {
		n++
	}
	return n
}

func TestSame(t *testing.T) { // P13.1
	r := source()
	var rows [][]byte
	for _, size := range []int{0, 1, 2, 3, 7, 40} {
		rows = append(rows, make([]byte, size), []byte(strings.Repeat("ab", size)))
		row := make([]byte, size)
		for i := range row {
			row[i] = byte(r.IntN(2))
		}
		rows = append(rows, row)
	}
	for _, b := range rows {
		for i := -2; i < len(b)+3; i++ {
			for k := -2; k < len(b)+3; k++ {
				want := 0
				if i <= len(b) && k <= len(b) {
					want = alike(b, i, k)
				}
				if n := match.Same(b, i, k); n != want {
					t.Fatalf("%x, %d, %d: %d, not %d", b, i, k, n, want)
				}
			}
		}
	}
}

func TestSameAtBounds(t *testing.T) { // P13.1
	b := bytes.Repeat([]byte{7}, 1000)
	for _, c := range []struct{ i, k, want int }{
		{0, 0, 258}, {0, 1, 258}, {1, 0, 258}, {742, 741, 258}, {743, 0, 257}, {0, 743, 257}, {743, 743, 257}, {999, 998, 1}, {1000, 0, 0}, {0, 1000, 0}, {1000, 1000, 0},
		{1001, 0, 0}, {0, 1001, 0}, {-1, 0, 0}, {0, -1, 0}, {-1, -1, 0}, {math.MinInt, 0, 0}, {0, math.MinInt, 0}, {math.MaxInt, 0, 0}, {0, math.MaxInt, 0}, {math.MinInt, math.MaxInt, 0}, {math.MaxInt, math.MaxInt, 0},
	} {
		if n := match.Same(b, c.i, c.k); n != c.want {
			t.Errorf("%d, %d: %d, not %d", c.i, c.k, n, c.want)
		}
	}
	if match.Same(nil, 0, 0) != 0 || match.Same(nil, 1, 0) != 0 {
		t.Error("bytes that aren't there are the same")
	}
	for _, at := range []int{0, 1, 2, 100, 257, 258, 259} {
		turned := slices.Clone(b)
		turned[500+at] = 8
		if n := match.Same(turned, 500, 0); n != min(at, 258) {
			t.Errorf("turned at %d: %d", at, n)
		}
	}
}

func TestBytes(t *testing.T) { // P13.1
	for _, c := range []struct{ size, want int }{
		{0, 1}, {1, 1}, {2, 2}, {3, 3}, {257, 257}, {258, 258}, {259, 258}, {math.MaxInt, 258}, {-1, 0}, {-258, 0}, {math.MinInt, 0},
	} {
		for _, dist := range []int{math.MinInt, 0, 1, 40000} {
			one := api.Token{Lit: 'a', Len: c.size, Dist: dist}
			if n := match.Bytes([]api.Token{one}); n != c.want {
				t.Errorf("%+v: %d, not %d", one, n, c.want)
			}
			if n := match.Bytes([]api.Token{lit('a'), one, back(5, 1), one}); n != 6+2*c.want {
				t.Errorf("%+v twice, and 6: %d", one, n)
			}
		}
	}
	if match.Bytes(nil) != 0 || match.Bytes([]api.Token{}) != 0 {
		t.Error("no tokens are bytes")
	}
}

// rows are bytes of many kinds, by their names.
func rows() map[string][]byte {
	r := source()
	all := map[string][]byte{
		"text":    []byte(strings.Repeat("she sells sea shells, by the sea shore she sells. ", 60)),
		"zeros":   make([]byte, 40000),
		"counted": nil,
		"none":    {},
	}
	for i := range 20000 {
		all["counted"] = append(all["counted"], byte(i>>8), byte(i))
	}
	for name, letters := range map[string]int{"of two": 2, "of five": 5, "of all": 256} {
		for _, size := range []int{1, 2, 3, 4, 5, 30, 700, 40000} {
			b := make([]byte, size)
			for i := range b {
				b[i] = byte(r.IntN(letters))
			}
			all[name+", "+strings.Repeat("i", size%97)] = b
		}
	}
	return all
}

// levels are levels within their bounds and beyond.
var levels = []int{math.MinInt, -1, 0, 1, 2, 3, 4, 5, 6, 7, 8, 9, 10, 64, 65, math.MaxInt}

func TestFindIsTheBytes(t *testing.T) { // P13.1
	for name, b := range rows() {
		for _, level := range levels {
			ts := match.Find(b, level)
			if out, e := expanded(ts, len(b)); !bytes.Equal(out, b) || e != api.OK {
				t.Errorf("%s, level %d: %d bytes, %d", name, level, len(out), e)
			}
			if out, e := match.Expand(ts, len(b)); !bytes.Equal(out, b) || e != api.OK || match.Bytes(ts) != len(b) {
				t.Errorf("%s, level %d: Expand has %d bytes, %d; Bytes %d", name, level, len(out), e, match.Bytes(ts))
			}
			for i, x := range ts {
				if x.Len == 0 && x.Dist != 0 || x.Len != 0 && x.Lit != 0 {
					t.Fatalf("%s, level %d: token %d is %+v", name, level, i, x)
				}
			}
		}
	}
}

func TestNoLevelFindsNothing(t *testing.T) { // P13.1
	for name, b := range rows() {
		for _, level := range []int{0, -1, -9, math.MinInt} {
			if ts := match.Find(b, level); !slices.Equal(ts, lits(string(b))) {
				t.Errorf("%s, level %d: %d tokens", name, level, len(ts))
			}
		}
	}
}

func TestLevelsBeyond9AreAs9(t *testing.T) { // P13.1
	for name, b := range rows() {
		want := match.Find(b, 9)
		for _, level := range []int{9, 10, 63, 64, 1 << 40, math.MaxInt} {
			if !slices.Equal(match.Find(b, level), want) { // at 9 itself: the same is chosen again
				t.Errorf("%s: level %d isn't as 9", name, level)
			}
		}
	}
}

func TestHigherLevelsFindMore(t *testing.T) { // P13.1
	b := rows()["of five, "+strings.Repeat("i", 40000%97)]
	low, high := len(match.Find(b, 1)), len(match.Find(b, 9))
	if high >= low || low >= len(b)/2 {
		t.Errorf("%d tokens, and %d, of %d bytes", low, high, len(b))
	}
}

// longest is how long the longest match for a place is.
func longest(b []byte, at int) int {
	most := 0
	for k := max(0, at-32768); k < at; k++ {
		most = max(most, alike(b, at, k))
	}
	if most < 3 {
		return 0
	}
	return most
}

// TestNothingIsPassedOver holds tokens against all matches that there are: a byte stands alone only where there is none, or a longer one behind it, and a match is the longest one, and from nowhere nearer.
func TestNothingIsPassedOver(t *testing.T) { // P13.1
	r := source()
	for range 300 {
		b := make([]byte, r.IntN(900))
		letters := 2 + r.IntN(6)
		for i := range b {
			b[i] = byte(r.IntN(letters))
		}
		at := 0
		for i, x := range match.Find(b, 9) {
			most := longest(b, at)
			switch {
			case x.Len == 0 && most > 0 && longest(b, at+1) <= most:
				t.Fatalf("token %d is a byte, though %d can be told", i, most)
			case x.Len > 0 && x.Len != most:
				t.Fatalf("token %d is %d, though %d can be told", i, x.Len, most)
			}
			for k := at - x.Dist + 1; x.Len > 0 && k < at; k++ {
				if alike(b, at, k) >= x.Len {
					t.Fatalf("token %d is from %d back, though it is nearer", i, x.Dist)
				}
			}
			at += max(x.Len, 1)
		}
	}
}

func TestAMatchGivesWayToALongerOne(t *testing.T) { // P13.1
	want := append(lits("abcxbcdeya"), back(4, 6)) // 3 bytes from 9 back would leave d and e alone
	for level := 1; level < 10; level++ {
		if ts := match.Find([]byte("abcxbcdeyabcde"), level); !slices.Equal(ts, want) {
			t.Errorf("level %d: %+v", level, ts)
		}
	}
}

func TestFindUpToTheWindowsEnd(t *testing.T) { // P13.1
	for _, size := range []int{3, 4, 258} {
		for _, dist := range []int{32767, 32768, 32769} {
			word := make([]byte, size)
			for i := range word {
				word[i] = byte(128 + i%100) // none of these stands between
			}
			b := slices.Concat(word, make([]byte, dist-size), word)
			for level := 1; level < 10; level++ {
				ts := match.Find(b, level)
				found := slices.Contains(ts, back(size, dist))
				if found != (dist <= 32768) {
					t.Errorf("level %d: %d bytes, %d back: %v", level, size, dist, found)
				}
			}
		}
	}
}

func TestARowOfOneByte(t *testing.T) { // P13.2
	for size := range 800 {
		fewTokens(t, bytes.Repeat([]byte{byte(size)}, size))
	}
	for _, size := range []int{32767, 32768, 32769, 33026, 1 << 18} {
		fewTokens(t, make([]byte, size))
	}
}

// fewTokens checks that a row of one byte has few tokens.
func fewTokens(t *testing.T, b []byte) {
	t.Helper()
	for _, level := range []int{1, 2, 3, 4, 5, 6, 7, 8, 9, math.MaxInt} {
		ts := match.Find(b, level)
		if len(ts) > 4+len(b)/258 {
			t.Fatalf("%d bytes, level %d: %d tokens", len(b), level, len(ts))
		}
		if out, e := expanded(ts, len(b)); !bytes.Equal(out, b) || e != api.OK {
			t.Fatalf("%d bytes, level %d: %d", len(b), level, e)
		}
	}
}

func TestNothingIsTurnedOrKept(t *testing.T) { // P13.1
	room := []byte("she sells sea shells, she sells; and more")
	b := room[:len(room)-10]
	ts := match.Find(b, 9)
	wanted := slices.Clone(ts)
	if string(room) != "she sells sea shells, she sells; and more" {
		t.Errorf("Find turned %q", room)
	}
	spare := append(slices.Clone(ts), lit('z'))
	out, _ := match.Expand(spare[:len(ts)], 99)
	if !slices.Equal(spare, append(slices.Clone(wanted), lit('z'))) {
		t.Error("Expand turned tokens")
	}
	clear(room)
	clear(spare)
	if string(out) != "she sells sea shells, she sells" || !slices.Equal(ts, wanted) {
		t.Errorf("%q, %+v", out, ts)
	}
}
