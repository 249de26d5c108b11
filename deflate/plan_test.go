package deflate

import (
	"math/rand/v2"
	"testing"

	"footlocker/bits"
	"footlocker/match"
)

// TestAPlanTakesAsManyBitsAsItSays: that no row is longer than the stored form hangs on it.
func TestAPlanTakesAsManyBitsAsItSays(t *testing.T) { // P15.1
	r := rand.New(rand.NewPCG(33, 34))
	kinds := map[int]int{}
	begun := 0 // how many stored parts begin within a byte
	for range 12 {
		var b []byte
		for range 8 {
			letters := []int{2, 9, 100, 256, 256}[r.IntN(5)]
			for range 3000 + r.IntN(8000) {
				b = append(b, byte(r.IntN(letters)))
			}
		}
		var w bits.Writer
		all := shortest(worthwhile(match.Find(b, 1), b), b, 0)
		for _, p := range all.parts {
			kinds[p.kind]++
			if p.kind == stored && w.Len()%8 > 0 {
				begun++
			}
			p.put(&w, false)
		}
		if w.Len() != all.bits {
			t.Errorf("%d parts: %d bits, not %d", len(all.parts), w.Len(), all.bits)
		}
	}
	if kinds[stored] < 20 || kinds[dynamic] < 20 || begun < 10 {
		t.Errorf("%v, %d begin within a byte", kinds, begun)
	}
	long := make([]byte, 2*mostStored+9)
	for at := range 17 {
		var w bits.Writer
		w.Put(0, at)
		putStored(&w, long, false)
		if n := storedBits(len(long), at); n != w.Len()-at {
			t.Errorf("stored, %d bits ahead: %d, not %d", at, n, w.Len()-at)
		}
	}
}
