package crc_test

import (
	"math"
	"math/rand/v2"
	"slices"
	"testing"

	"footlocker/crc"
)

// source tells the same numbers in each run.
func source() *rand.Rand { return rand.New(rand.NewPCG(9, 10)) }

// some are so many bytes.
func some(r *rand.Rand, n int) []byte {
	row := make([]byte, n)
	for i := range row {
		row[i] = byte(r.IntN(256))
	}
	return row
}

// bitByBit is the sum of bytes behind others, by the chapter's words.
func bitByBit(sum uint32, b []byte) uint32 {
	word := ^sum
	for _, v := range b {
		word ^= uint32(v)
		for range 8 {
			went := word & 1
			word >>= 1
			if went == 1 {
				word ^= 0xEDB88320
			}
		}
	}
	return ^word
}

// noughts is what a word becomes by so many noughts: column i of the matrix is what bit i becomes by as many as are gone through at once, twice as many each time.
func noughts(sum uint32, n uint64) uint32 {
	var matrix [32]uint32
	for i := range matrix {
		matrix[i] = ^bitByBit(^(uint32(1) << i), []byte{0})
	}
	apply := func(word uint32) uint32 {
		moved := uint32(0)
		for i, column := range matrix {
			if word>>i&1 == 1 {
				moved ^= column
			}
		}
		return moved
	}
	word := ^sum
	for ; n > 0; n >>= 1 {
		if n&1 == 1 {
			word = apply(word)
		}
		var twice [32]uint32
		for i, column := range matrix {
			twice[i] = apply(column)
		}
		matrix = twice
	}
	return ^word
}

func TestSumsThatAreKnown(t *testing.T) { // P6.1
	for _, c := range []struct {
		text string
		want uint32
	}{
		{"123456789", 0xCBF43926},
		{"", 0},
		{"\x00", 0xD202EF8D},
		{"\x00\x00\x00\x00", 0x2144DF1C},
		{"\xFF", 0xFF000000},
		{"\xFF\xFF\xFF\xFF", 0xFFFFFFFF},
		{"a", 0xE8B7BE43},
		{"abc", 0x352441C2},
		{"The quick brown fox jumps over the lazy dog", 0x414FA339},
	} {
		if got := crc.Sum([]byte(c.text)); got != c.want {
			t.Errorf("%q: %x, not %x", c.text, got, c.want)
		}
	}
	if crc.Sum(nil) != 0 || crc.Sum([]byte{}) != 0 {
		t.Error("of nothing")
	}
}

func TestSumOfEachByteAndLength(t *testing.T) { // P6.1
	for v := range 256 {
		if b := []byte{byte(v)}; crc.Sum(b) != bitByBit(0, b) {
			t.Errorf("%d: %x", v, crc.Sum(b))
		}
	}
	b := some(source(), 1100)
	for n := range b {
		if got := crc.Sum(b[:n]); got != bitByBit(0, b[:n]) {
			t.Fatalf("of %d bytes: %x", n, got)
		}
	}
}

func TestUpdateOfWhateverSum(t *testing.T) { // P6.1
	r := source()
	for range 2000 {
		sum, b := r.Uint32(), some(r, r.IntN(20))
		if got := crc.Update(sum, b); got != bitByBit(sum, b) {
			t.Fatalf("%x and %v: %x", sum, b, got)
		}
	}
	for _, sum := range []uint32{0, 1, 7, 1 << 31, math.MaxUint32} {
		if crc.Update(sum, nil) != sum || crc.Update(sum, []byte{}) != sum || crc.Update(sum, []byte{255}) != bitByBit(sum, []byte{255}) {
			t.Errorf("%x", sum)
		}
	}
}

func TestUpdateGoesOn(t *testing.T) { // P6.1
	b := some(source(), 90)
	for i := range len(b) + 1 {
		if got := crc.Update(crc.Sum(b[:i]), b[i:]); got != crc.Sum(b) {
			t.Fatalf("cut at %d: %x", i, got)
		}
	}
}

func TestBlocks(t *testing.T) { // P6.1
	b := some(source(), 40)
	for long := range len(b) + 1 {
		for size := 1; size < long+4; size++ {
			var want []uint32
			for from := 0; from < long; from += size {
				want = append(want, crc.Sum(b[from:min(from+size, long)]))
			}
			if got := crc.Blocks(b[:long], size); !slices.Equal(got, want) {
				t.Fatalf("%d bytes by %d: %x, not %x", long, size, got, want)
			}
		}
	}
}

func TestBlocksEdges(t *testing.T) { // P6.1, P1
	b := []byte("123456789")
	for _, size := range []int{0, -1, -9, math.MinInt} {
		if got := crc.Blocks(b, size); len(got) != 0 {
			t.Errorf("blocks of %d: %x", size, got)
		}
		if got := crc.Blocks(nil, size); len(got) != 0 {
			t.Errorf("blocks of %d of nothing: %x", size, got)
		}
	}
	for _, size := range []int{9, 10, 1 << 40, math.MaxInt - 1, math.MaxInt} {
		if got := crc.Blocks(b, size); !slices.Equal(got, []uint32{0xCBF43926}) {
			t.Errorf("blocks of %d: %x", size, got)
		}
		if got := crc.Blocks(nil, size); len(got) != 0 {
			t.Errorf("blocks of %d of nothing: %x", size, got)
		}
	}
	if got := crc.Blocks([]byte{0, 'a', 0}, 1); !slices.Equal(got, []uint32{0xD202EF8D, 0xE8B7BE43, 0xD202EF8D}) {
		t.Errorf("%x", got)
	}
	if got := crc.Blocks([]byte{0}, 1); !slices.Equal(got, []uint32{0xD202EF8D}) {
		t.Errorf("%x", got)
	}
	if got := crc.Blocks([]byte{}, 1); len(got) != 0 {
		t.Errorf("%x", got)
	}
}

func TestZerosAreBytes(t *testing.T) { // P6.1
	r := source()
	for n := range 600 {
		b := some(r, r.IntN(9))
		if got := crc.Zeros(crc.Sum(b), n); got != crc.Sum(append(b, make([]byte, n)...)) {
			t.Fatalf("%d noughts: %x", n, got)
		}
		sum := r.Uint32()
		if got := crc.Zeros(sum, n); got != bitByBit(sum, make([]byte, n)) {
			t.Fatalf("%x, and %d noughts: %x", sum, n, got)
		}
	}
}

func TestZerosOfMany(t *testing.T) { // P6.1
	r := source()
	for _, n := range []int{1 << 16, 1<<16 + 1, 1 << 20, 1 << 24, 1<<31 - 1, 1 << 31, 1<<32 - 1, 1 << 32, 1<<32 + 1, 1 << 33, 1<<39 + 12345, 1<<40 - 1, 1 << 40} {
		for _, sum := range []uint32{0, 1, 0xCBF43926, math.MaxUint32, r.Uint32()} {
			if got := crc.Zeros(sum, n); got != noughts(sum, uint64(n)) {
				t.Errorf("%x, and %d noughts: %x", sum, n, got)
			}
		}
	}
	for range 300 {
		sum, n := r.Uint32(), r.IntN(1<<40+1)
		if got := crc.Zeros(sum, n); got != noughts(sum, uint64(n)) {
			t.Fatalf("%x, and %d noughts: %x", sum, n, got)
		}
	}
}

func TestZerosAreClamped(t *testing.T) { // P6.1
	for _, sum := range []uint32{0, 5, 0xCBF43926, math.MaxUint32} {
		for _, n := range []int{0, -1, -2, -1 << 40, math.MinInt} {
			if got := crc.Zeros(sum, n); got != sum {
				t.Errorf("%x, and %d noughts: %x", sum, n, got)
			}
		}
		for _, n := range []int{1<<40 + 1, 1 << 41, 1<<41 - 1, 1 << 62, math.MaxInt} {
			if got := crc.Zeros(sum, n); got != noughts(sum, 1<<40) {
				t.Errorf("%x, and %d noughts: %x", sum, n, got)
			}
		}
		if sum != math.MaxUint32 && crc.Zeros(sum, 1<<40-1) == crc.Zeros(sum, 1<<40) { // that one's word is 0, and stays it
			t.Errorf("%x: one fewer is the same", sum)
		}
	}
}

func TestJoin(t *testing.T) { // P6.1
	r := source()
	for range 300 {
		b := some(r, r.IntN(60))
		cut := r.IntN(len(b) + 1)
		if got := crc.Join(crc.Sum(b[:cut]), crc.Sum(b[cut:]), len(b)-cut); got != crc.Sum(b) {
			t.Fatalf("%v, cut at %d: %x", b, cut, got)
		}
	}
	b := []byte("123456789")
	if crc.Join(crc.Sum(b), 0, 0) != 0xCBF43926 || crc.Join(0, crc.Sum(b), 9) != 0xCBF43926 || crc.Join(0, 0, 0) != 0 {
		t.Error("nothing ahead, or behind")
	}
}

func TestJoinOfWhateverSums(t *testing.T) { // P6.1
	r := source()
	lengths := []int{math.MinInt, -1, 0, 1, 2, 1 << 20, 1<<40 - 1, 1 << 40, 1<<40 + 1, math.MaxInt}
	for range 100 {
		a, b := r.Uint32(), r.Uint32()
		for _, n := range append(lengths, r.IntN(1<<40)) {
			times := uint64(min(max(n, 0), 1<<40))
			if got := crc.Join(a, b, n); got != noughts(a, times)^noughts(0, times)^b {
				t.Fatalf("%x, %x and %d: %x", a, b, n, got)
			}
		}
	}
}

func TestOneBitTurnsTheSum(t *testing.T) { // P6.2
	r := source()
	for _, n := range []int{1, 2, 4, 5, 64, 300} {
		b := some(r, n)
		sum := crc.Sum(b)
		for bit := range 8 * n {
			b[bit/8] ^= 1 << (bit % 8)
			if crc.Sum(b) == sum {
				t.Fatalf("%d bytes, bit %d", n, bit)
			}
			b[bit/8] ^= 1 << (bit % 8)
		}
	}
}

func TestBitsThatFollowTurnTheSum(t *testing.T) { // P6.2
	r := source()
	for _, n := range []int{1, 3, 4, 5, 9, 40, 200} {
		b := some(r, n)
		sum := crc.Sum(b)
		for from := range 8 * n {
			for range 20 {
				pattern := 1 | r.Uint32()>>r.IntN(32)
				turned := slices.Clone(b)
				for i := range min(32, 8*n-from) {
					bit := from + i
					turned[bit/8] ^= byte(pattern>>i&1) << (bit % 8)
				}
				if crc.Sum(turned) == sum {
					t.Fatalf("%d bytes, turned by %x from bit %d on", n, pattern, from)
				}
			}
		}
	}
}

func TestSumsOfBytesThatFollow(t *testing.T) { // P6.2: four bytes that follow one another have each sum just once, so no two have the same
	seen := map[uint32]int{}
	for i := range 1 << 16 {
		sum := crc.Sum([]byte{'f', byte(i), byte(i >> 8), 'l'})
		if other, ok := seen[sum]; ok {
			t.Fatalf("%d and %d: %x", i, other, sum)
		}
		seen[sum] = i
	}
}

func TestSumsAddUp(t *testing.T) { // P6.3
	r := source()
	for n := range 300 {
		a, b := some(r, n), some(r, n)
		both := make([]byte, n)
		for i := range both {
			both[i] = a[i] ^ b[i]
		}
		if got := crc.Sum(a) ^ crc.Sum(b) ^ crc.Sum(make([]byte, n)); got != crc.Sum(both) {
			t.Fatalf("%v and %v: %x", a, b, got)
		}
		if crc.Sum(make([]byte, n)) != crc.Zeros(0, n) {
			t.Fatalf("%d noughts", n)
		}
	}
}

func TestBytesAreNeitherTurnedNorKept(t *testing.T) { // P2, and the rules that hold everywhere
	room := []byte("123456789 and more")
	b := room[:9]
	want := slices.Clone(room)
	crc.Sum(b)
	crc.Update(3, b)
	one, other := crc.Blocks(b, 4), crc.Blocks(b, 4)
	if !slices.Equal(room, want) {
		t.Fatalf("turned: %q", room)
	}
	clear(room)
	if !slices.Equal(one, other) || crc.Sum(want[:9]) != 0xCBF43926 {
		t.Errorf("%x, %x", one, other)
	}
	clear(one[:cap(one)])
	if !slices.Equal(other, []uint32{crc.Sum(want[:4]), crc.Sum(want[4:8]), crc.Sum(want[8:9])}) {
		t.Errorf("answers share room: %x", other)
	}
}
