package block_test

import (
	"bytes"
	"compress/flate"
	"io"
	"math"
	"math/rand/v2"
	"slices"
	"strings"
	"testing"

	"footlocker/api"
	"footlocker/bits"
	"footlocker/block"
	"footlocker/inflate"
)

// source tells the same numbers in each run.
func source() *rand.Rand { return rand.New(rand.NewPCG(27, 28)) }

// lit is a byte's token, and back a match.
func lit(v byte) api.Token          { return api.Token{Lit: v} }
func back(size, dist int) api.Token { return api.Token{Len: size, Dist: dist} }

// lits are bytes' tokens.
func lits(text string) (ts []api.Token) {
	for i := range len(text) {
		ts = append(ts, lit(text[i]))
	}
	return ts
}

// low is a number's bits, the lowest one first, and high the highest one first.
func low(v, size int) string {
	text := ""
	for i := range size {
		text += string(rune('0' + v>>i&1))
	}
	return text
}
func high(v, size int) string {
	b := []byte(low(v, size))
	slices.Reverse(b)
	return string(b)
}

// filled are bits, with noughts up to a byte's end.
func filled(text string) string { return text + strings.Repeat("0", (8-len(text)%8)%8) }

// packed are bits as bytes.
func packed(text string) []byte {
	text = filled(text)
	b := make([]byte, len(text)/8)
	for i := range len(text) {
		b[i/8] |= (text[i] - '0') << (i % 8)
	}
	return b
}

// ahead is a writer of so many bits, of which every other one is 1, and these bits.
func ahead(count int) (*bits.Writer, string) {
	w, text := new(bits.Writer), ""
	for i := range count {
		w.Put(uint32(1-i%2), 1)
		text += low(1-i%2, 1)
	}
	return w, text
}

// first is the bit that tells whether a block is the last one.
func first(last bool) string {
	if last {
		return "1"
	}
	return "0"
}

// storedText is a stored block by layer 12's words, behind bits.
func storedText(text string, b []byte, last bool) string {
	text = filled(text + first(last) + "00")
	text += low(len(b), 16) + low(^len(b), 16)
	for _, v := range b {
		text += low(int(v), 8)
	}
	return text
}

// fixedLit is the fixed code of a symbol, as the lengths 8, 9, 7, 8 and their order give it.
func fixedLit(symbol int) string {
	switch {
	case symbol < 144:
		return high(0x30+symbol, 8)
	case symbol < 256:
		return high(0x190+symbol-144, 9)
	case symbol < 280:
		return high(symbol-256, 7)
	}
	return high(0xC0+symbol-280, 8)
}

// called is the code of a number by layer 11's words, and its further bits: codes from a first one on, some of which mean one number each, then groups, each of which means twice as many.
func called(n, code, least, single, group int) (int, string) {
	if n < least+single {
		return code + n - least, ""
	}
	code, least = code+single, least+single
	for size := 1; ; size++ {
		if n < least+group<<size {
			return code + (n-least)>>size, low((n-least)&(1<<size-1), size)
		}
		code, least = code+group, least+group<<size
	}
}

// length is a length's code and further bits, and dist a distance's.
func length(n int) (int, string) {
	if n == 258 {
		return 285, ""
	}
	return called(n, 257, 3, 8, 4)
}
func dist(n int) (int, string) { return called(n, 0, 1, 4, 2) }

// fixedText is a fixed block by layer 12's words.
func fixedText(ts []api.Token, last bool) string {
	var text strings.Builder
	text.WriteString(first(last) + "10")
	for _, t := range ts {
		if t.Len == 0 {
			text.WriteString(fixedLit(int(t.Lit)))
			continue
		}
		code, further := length(t.Len)
		text.WriteString(fixedLit(code) + further)
		code, further = dist(t.Dist)
		text.WriteString(high(code, 5) + further)
	}
	return text.String() + fixedLit(256)
}

// expanded are the bytes of right tokens, behind others.
func expanded(out []byte, ts []api.Token) []byte {
	for _, t := range ts {
		if t.Len == 0 {
			out = append(out, t.Lit)
		}
		for range t.Len {
			out = append(out, out[len(out)-t.Dist])
		}
	}
	return out
}

// isWritten checks that a writer's bits are those of a text, and no more.
func isWritten(t *testing.T, name string, w *bits.Writer, text string) {
	t.Helper()
	if w.Len() != len(text) || !bytes.Equal(w.Done(), packed(text)) {
		t.Fatalf("%s: %d bits, %.40x, not %d, %.40x", name, w.Len(), w.Done(), len(text), packed(text))
	}
}

// unpacks checks that a writer's bits unpack to bytes, by layer 12 and by Go's library.
func unpacks(t *testing.T, name string, w *bits.Writer, want []byte) {
	t.Helper()
	if b, e := inflate.All(w.Done(), len(want)); !bytes.Equal(b, want) || e != api.OK {
		t.Fatalf("%s: %d bytes, %d, not %d bytes", name, len(b), e, len(want))
	}
	if b, err := io.ReadAll(flate.NewReader(bytes.NewReader(w.Done()))); !bytes.Equal(b, want) || err != nil {
		t.Fatalf("%s: Go's library has %d bytes, %v, not %d bytes", name, len(b), err, len(want))
	}
}

func TestTheExample(t *testing.T) { // P14.2
	var w bits.Writer
	if e := block.Fixed(&w, lits("A"), true); e != api.OK || !bytes.Equal(w.Done(), []byte{0x73, 4, 0}) {
		t.Errorf("%x, %d", w.Done(), e)
	}
}

func TestStoredIsJustSo(t *testing.T) { // P14.1, P14.2
	r := source()
	for _, size := range []int{0, 1, 2, 3, 255, 256, 257, 1000, 65534, 65535} {
		b := make([]byte, size)
		for i := range b {
			b[i] = byte(r.Uint32())
		}
		for at := range 17 {
			if size > 60000 && at%5 > 0 {
				continue
			}
			w, text := ahead(at)
			e := block.Stored(w, b, at%2 == 0)
			if e != api.OK || w.Len()-at != block.StoredBits(size, at%8) {
				t.Fatalf("%d bytes, %d bits ahead: %d bits, not %d, %d", size, at, w.Len()-at, block.StoredBits(size, at%8), e)
			}
			if size < 2000 {
				isWritten(t, "stored", w, storedText(text, b, at%2 == 0))
			}
		}
		var w bits.Writer
		block.Stored(&w, b, false)
		block.Stored(&w, b, true)
		unpacks(t, "stored", &w, slices.Concat(b, b))
	}
}

func TestStoredBits(t *testing.T) { // P14.1
	for at := range 8 {
		for _, size := range []int{0, 1, 2, 3, 500, 65534, 65535} {
			up := 0
			for (at+3+up)%8 > 0 {
				up++
			}
			if n := block.StoredBits(size, at); n != 3+up+32+8*size {
				t.Errorf("%d bytes, %d bits ahead: %d", size, at, n)
			}
		}
	}
	for _, c := range []struct{ n, at, asN, asAt int }{
		{-1, 3, 0, 3}, {math.MinInt, 3, 0, 3}, {65536, 3, 65535, 3}, {math.MaxInt, 3, 65535, 3},
		{9, -1, 9, 0}, {9, math.MinInt, 9, 0}, {9, 8, 9, 7}, {9, 13, 9, 7}, {9, math.MaxInt, 9, 7}, {math.MinInt, math.MaxInt, 0, 7}, {math.MaxInt, math.MinInt, 65535, 0},
	} {
		if got, want := block.StoredBits(c.n, c.at), block.StoredBits(c.asN, c.asAt); got != want {
			t.Errorf("%d, %d: %d, not %d", c.n, c.at, got, want)
		}
	}
}

func TestStoredTooLong(t *testing.T) { // P14.1
	for _, size := range []int{65536, 65537, 1 << 17} {
		refused(t, "stored", api.ErrLong, func(w *bits.Writer) api.Errno { return block.Stored(w, make([]byte, size), size%2 == 0) })
	}
}

// refused checks that an error is answered, and nothing written, whatever was written ahead.
func refused(t *testing.T, name string, want api.Errno, write func(w *bits.Writer) api.Errno) {
	t.Helper()
	for at := range 9 {
		w, text := ahead(at)
		if e := write(w); e != want {
			t.Errorf("%s: %d, not %d", name, e, want)
		}
		isWritten(t, name, w, text)
	}
	if e := write(nil); e != want {
		t.Errorf("%s, without a writer: %d, not %d", name, e, want)
	}
}

// wrong are tokens that are neither bytes nor matches.
func wrong() []api.Token {
	all := []api.Token{}
	for _, size := range []int{math.MinInt, -258, -3, -1, 1, 2, 259, 514, math.MaxInt} {
		all = append(all, back(size, 1), back(size, 0), back(size, 32768))
	}
	for _, dist := range []int{math.MinInt, -32768, -1, 0, 32769, 65537, math.MaxInt} {
		all = append(all, back(3, dist), back(100, dist), back(258, dist))
	}
	return all
}

// kinds are what writes tokens.
var kinds = []struct {
	name  string
	write func(w *bits.Writer, ts []api.Token, last bool) api.Errno
}{{"fixed", block.Fixed}, {"dynamic", block.Dynamic}}

func TestWrongTokens(t *testing.T) { // P14.1
	for _, x := range wrong() {
		for _, ts := range [][]api.Token{{x}, {x, lit(1)}, {lit(1), x}, {lit(1), back(3, 1), x, lit(2)}, {x, x}} {
			for _, kind := range kinds {
				for _, last := range []bool{false, true} {
					refused(t, kind.name, api.ErrRange, func(w *bits.Writer) api.Errno { return kind.write(w, ts, last) })
				}
			}
			if n := block.FixedBits(ts); n != 0 {
				t.Errorf("%+v: %d bits", ts, n)
			}
		}
	}
}

func TestABytesDistanceMeansNothing(t *testing.T) { // P14.1
	for _, d := range []int{math.MinInt, -1, 1, 5, 32769, math.MaxInt} {
		ts := []api.Token{{Lit: 'a', Dist: d}, {Lit: 'b', Dist: d}}
		for _, kind := range kinds {
			var w bits.Writer
			if e := kind.write(&w, ts, true); e != api.OK {
				t.Errorf("%s: %d", kind.name, e)
			}
			unpacks(t, kind.name, &w, []byte("ab"))
		}
		if block.FixedBits(ts) != 3+8+8+7 {
			t.Errorf("%d bits", block.FixedBits(ts))
		}
		freqs, dists := block.Count(ts)
		if freqs['a'] != 1 || freqs['b'] != 1 || slices.Max(dists) != 0 {
			t.Errorf("%v, %v", freqs, dists)
		}
	}
	for _, kind := range kinds {
		if e := kind.write(nil, lits("ab"), true); e != api.OK {
			t.Errorf("%s, without a writer: %d", kind.name, e)
		}
	}
	if e := block.Stored(nil, []byte("ab"), true); e != api.OK {
		t.Errorf("stored, without a writer: %d", e)
	}
}

// justFixed checks that a fixed block of tokens is just as it must be.
func justFixed(t *testing.T, name string, ts []api.Token) {
	t.Helper()
	for at := range 9 {
		w, text := ahead(at)
		if e := block.Fixed(w, ts, at%2 == 0); e != api.OK {
			t.Fatalf("%s: %d", name, e)
		}
		isWritten(t, name, w, text+fixedText(ts, at%2 == 0))
		if n := block.FixedBits(ts); n != w.Len()-at {
			t.Fatalf("%s: %d bits, not %d", name, n, w.Len()-at)
		}
	}
}

func TestFixedIsJustSo(t *testing.T) { // P14.1, P14.2
	justFixed(t, "none", nil)
	justFixed(t, "empty", []api.Token{})
	for v := range 256 {
		justFixed(t, "a byte", []api.Token{lit(byte(v))})
	}
	var all []api.Token
	for n := 3; n <= 258; n++ {
		justFixed(t, "a length", []api.Token{back(n, 1), lit(byte(n))})
		all = append(all, back(n, 261-n), lit(byte(n)))
	}
	for n := 1; n <= 32768; n++ {
		all = append(all, back(3+n%256, n))
	}
	justFixed(t, "all", all)
}

// someTokens are right tokens, so many, behind so many bytes.
func someTokens(r *rand.Rand, count, there int) []api.Token {
	var ts []api.Token
	letters := 1 + r.IntN(256)
	for range count {
		if there == 0 || r.IntN(3) > 0 {
			ts = append(ts, lit(byte(r.IntN(letters))))
			there++
			continue
		}
		size := 3 + r.IntN(1+r.IntN(256))
		ts = append(ts, back(size, 1+r.IntN(min(there, 32768))))
		there += size
	}
	return ts
}

func TestWhatIsWrittenUnpacks(t *testing.T) { // P14.1
	r := source()
	for range 400 {
		var w bits.Writer
		var want []byte
		count := 1 + r.IntN(5)
		for i := range count {
			last := i == count-1
			ts := someTokens(r, r.IntN(300), len(want))
			e := api.OK
			if kind := r.IntN(3); kind < len(kinds) {
				want = expanded(want, ts)
				e = kinds[kind].write(&w, ts, last)
			} else {
				b := expanded(nil, someTokens(r, r.IntN(30), 0))
				want = append(want, b...)
				e = block.Stored(&w, b, last)
			}
			if e != api.OK {
				t.Fatal(e)
			}
			if b, n, e := inflate.Unpack(w.Done(), math.MaxInt); !last && (e != api.ErrShort || len(b) > 0 || n > 0) {
				t.Fatalf("a block that isn't the last one: %d", e)
			}
		}
		unpacks(t, "blocks", &w, want)
	}
}

// steep are tokens of so many bytes (from 0 on), each of which comes as often as the two ahead of it: their codes are as long as there may be.
func steep(count int) []api.Token {
	var ts []api.Token
	for v, a, b := 0, 1, 1; v < count; v, a, b = v+1, b, a+b {
		ts = append(ts, slices.Repeat(lits(string([]byte{byte(v)})), a)...)
	}
	return ts
}

// uneven are tokens whose lengths come each as often as the two ahead of it, too: the lengths' codes would be longer than 7 bits. A byte comes as often as its length of at most 11 asks for; the end is one of that length.
func uneven() []api.Token {
	var list []int
	for _, x := range []struct{ length, times int }{{1, 1}, {3, 1}, {5, 3}, {6, 4}, {7, 7}, {8, 11}, {9, 18}, {10, 29}} {
		list = append(list, slices.Repeat([]int{x.length}, x.times)...)
	}
	var ts []api.Token
	v := byte(0)
	for i := range 117 { // those of 11 stand between, so that no runs come of them
		ts = append(ts, lit(v))
		v++
		if i%2 == 0 && len(list) > 0 || len(list) > (117-i)/2 {
			at := i * 31 % len(list)
			ts = append(ts, slices.Repeat([]api.Token{lit(v)}, 1<<(11-list[at]))...)
			list = slices.Delete(list, at, at+1)
			v++
		}
	}
	return ts
}

// bounds are tokens at bounds of dynamic blocks, by names.
func bounds() map[string][]api.Token {
	many := make([]byte, 32768)
	for i := range many {
		many[i] = byte(i * 7)
	}
	all := map[string][]api.Token{
		"none":             nil,
		"one byte":         lits("\x00"),
		"one byte, twice":  lits("aa"),
		"the last byte":    lits("\xFF"),
		"two bytes":        lits("ab"),
		"one distance":     {lit('a'), back(3, 1)},
		"it, again":        {lit('a'), back(3, 1), back(9, 1), back(258, 1)},
		"another one":      {lit('a'), lit('b'), back(258, 2)},
		"two distances":    {lit('a'), lit('b'), back(3, 1), back(3, 2)},
		"the farthest":     append(lits(string(many)), back(258, 32768)),
		"the near and far": append(lits(string(many)), back(258, 32768), back(258, 1)),
		"steep":            steep(22),
		"uneven":           uneven(),
		"all bytes":        lits(string(many[:256])),
		"every third byte": nil,
		"every length":     {lit('a')},
		"every code":       lits(string(many)),
	}
	for v := 0; v < 256; v += 3 {
		all["every third byte"] = append(all["every third byte"], lit(byte(v)))
	}
	for n := 3; n <= 258; n++ {
		all["every length"] = append(all["every length"], back(n, 1))
		all["every code"] = append(all["every code"], back(n, 1+(n-3)*128))
	}
	for n := 1; n <= 32768; n++ {
		all["every code"] = append(all["every code"], back(3+n%256, n))
	}
	for gap := 1; gap < 256; gap++ { // rows of lengths that are noughts, in each number
		name := "gap " + high(gap, 8)
		all[name] = append(lits("\x00"), lit(byte(gap)))
	}
	for size := 1; size < 70; size++ { // rows of lengths that are the same, in each number
		name := "run " + high(size, 8)
		all[name] = lits(string(many[:0]))
		for v := range size {
			all[name] = append(all[name], lit(byte(v)))
		}
	}
	return all
}

func TestDynamicAtBounds(t *testing.T) { // P14.1
	for name, ts := range bounds() {
		want := expanded(nil, ts)
		var w bits.Writer
		if e := block.Dynamic(&w, ts, true); e != api.OK {
			t.Fatalf("%s: %d", name, e)
		}
		if b := w.Done(); b[0]&7 != 5 {
			t.Errorf("%s begins with %x", name, b[0])
		}
		unpacks(t, name, &w, want)
		behind, _ := ahead(0)
		block.Stored(behind, []byte("ahead"), false)
		block.Dynamic(behind, ts, false)
		block.Fixed(behind, lits("behind"), true)
		unpacks(t, name, behind, slices.Concat([]byte("ahead"), want, []byte("behind")))
	}
}

func TestDynamicHasCodesOfItsOwn(t *testing.T) { // P14.1
	for name, ts := range map[string][]api.Token{
		"text":  lits(strings.Repeat("she sells sea shells by the sea shore", 20)),
		"steep": steep(15),
		"back":  append(lits("ab"), slices.Repeat([]api.Token{back(258, 2)}, 500)...),
	} {
		var w, again bits.Writer
		block.Dynamic(&w, ts, true)
		block.Dynamic(&again, ts, true)
		if most := block.FixedBits(ts) * 3 / 4; w.Len() > most {
			t.Errorf("%s: %d bits, though fixed it's %d", name, w.Len(), block.FixedBits(ts))
		}
		if !bytes.Equal(w.Done(), again.Done()) || w.Len() != again.Len() {
			t.Errorf("%s isn't chosen again", name)
		}
	}
}

// allBytes are all bytes, one by one.
func allBytes() string {
	b := make([]byte, 256)
	for i := range b {
		b[i] = byte(i)
	}
	return string(b)
}

// TestDynamicTellsNoMoreThanItMust holds how long small blocks are against what they must be at least.
func TestDynamicTellsNoMoreThanItMust(t *testing.T) { // P14.1
	for _, c := range []struct {
		name string
		ts   []api.Token
		want int
	}{
		// Lengths 138 noughts, 118 noughts, 1, 0: of the lengths' codes 18 comes twice, 0 and 1 once each, so they have 1 and 2 and 2 bits, the last of which stands 18th; the end has 1 bit.
		{"none", nil, 3 + 5 + 5 + 4 + 18*3 + 2*(1+7) + 2*2 + 1},
		// 65 noughts, 1, 138 and 52 noughts, 1, 0: 18 comes three times, 1 twice, 0 once.
		{"one byte", lits("A"), 3 + 5 + 5 + 4 + 18*3 + 3*(1+7) + 2*2 + 2 + 1 + 1},
		// 2, 138 noughts and one, 2, 115 noughts, 1, 0: 2, 18 and 0 come twice each, 1 once, so they have 2 bits each.
		{"two bytes, 139 between", lits("\x00\x8C"), 3 + 5 + 5 + 4 + 18*3 + 7*2 + 2*7 + 2 + 2 + 1},
		// Two of 257 have 9 bits, the others 8: 9, 9, 8, 42 times six more, 8, 8, 0. So 16 has 1 bit, 8 has 2, 9 and 0 have 3; 9 stands 7th.
		{"all bytes", lits(allBytes()), 3 + 5 + 5 + 4 + 7*3 + 42*(1+2) + 3*2 + 2*3 + 3 + 255*8 + 2*9},
	} {
		var w bits.Writer
		block.Dynamic(&w, c.ts, true)
		if w.Len() != c.want {
			t.Errorf("%s: %d bits, not %d", c.name, w.Len(), c.want)
		}
	}
}

func TestCount(t *testing.T) { // P14.1
	r := source()
	for range 500 {
		ts := someTokens(r, r.IntN(400), 0)
		for range r.IntN(4) {
			ts = slices.Insert(ts, r.IntN(len(ts)+1), wrong()[r.IntN(len(wrong()))])
		}
		counted(t, ts)
	}
	counted(t, nil)
	counted(t, []api.Token{})
	counted(t, wrong())
	for _, ts := range bounds() {
		counted(t, ts)
	}
}

// counted holds Count against the chapter's words.
func counted(t *testing.T, ts []api.Token) {
	t.Helper()
	freqs, distFreqs := make([]int, 286), make([]int, 30)
	freqs[256] = 1
	for _, x := range ts {
		switch {
		case x.Len == 0:
			freqs[x.Lit]++
		case 3 <= x.Len && x.Len <= 258 && 1 <= x.Dist && x.Dist <= 32768:
			code, _ := length(x.Len)
			freqs[code]++
			code, _ = dist(x.Dist)
			distFreqs[code]++
		}
	}
	got, gotDists := block.Count(ts)
	if !slices.Equal(got, freqs) || !slices.Equal(gotDists, distFreqs) {
		t.Fatalf("%v, %v, not %v, %v", got, gotDists, freqs, distFreqs)
	}
	whole := got[:cap(got)]
	clear(gotDists[:cap(gotDists)])
	if !slices.Equal(got, freqs) {
		t.Fatal("the lists share memory")
	}
	clear(whole)
}

func TestNothingIsTurnedOrKept(t *testing.T) { // P14.1
	room := []byte("stored, and more")
	ts := append(lits("abc"), back(6, 3), back(2, 9), lit('z'))
	wanted := slices.Clone(ts)
	for _, kind := range kinds {
		var w bits.Writer
		block.Stored(&w, room[:6], false)
		kind.write(&w, ts[:4], true)
		block.FixedBits(ts[:4])
		block.Count(ts[:4])
		if string(room) != "stored, and more" || !slices.Equal(ts, wanted) {
			t.Errorf("%s turned %q, or %+v", kind.name, room, ts)
		}
		clear(room)
		clear(ts)
		unpacks(t, kind.name, &w, []byte("storedabcabcabc"))
		copy(room, "stored, and more")
		copy(ts, wanted)
	}
}
