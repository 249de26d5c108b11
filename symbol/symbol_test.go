package symbol_test

import (
	"math"
	"slices"
	"testing"

	"footlocker/symbol"
)

// span is what a code means by the chapter's words: numbers from its least one on, told by so many further bits.
type span struct{ code, least, bits int }

// spans are codes from a first one on: some that mean one number each, then groups of some, each of which means twice as many as those ahead.
func spans(code, least, single, group, last int) []span {
	var all []span
	for range single {
		all = append(all, span{code, least, 0})
		code, least = code+1, least+1
	}
	for bits, many := 1, 2; code <= last; bits, many = bits+1, many*2 {
		for range group {
			all = append(all, span{code, least, bits})
			code, least = code+1, least+many
		}
	}
	return all
}

// lengthSpans are the length codes, and distSpans the distance codes.
func lengthSpans() []span { return append(spans(257, 3, 8, 4, 284), span{285, 258, 0}) }
func distSpans() []span   { return spans(0, 1, 4, 2, 29) }

// called is what a number is called: by the last of the codes that mean it, or by none.
func called(all []span, n, greatest int) (code, bits, value int) {
	if n > greatest {
		return 0, 0, 0
	}
	for _, s := range all {
		if n >= s.least {
			code, bits, value = s.code, s.bits, n-s.least
		}
	}
	return code, bits, value
}

// kind is what both kinds of codes have.
type kind struct {
	name            string
	call            func(n int) (code, bits, value int)
	base            func(code int) (base, bits int, ok bool)
	all             []span
	least, greatest int
}

func kinds() []kind {
	return []kind{
		{"length", symbol.Length, symbol.LengthBase, lengthSpans(), 3, 258},
		{"distance", symbol.Dist, symbol.DistBase, distSpans(), 1, 32768},
	}
}

// far are numbers beyond all bounds.
var far = []int{math.MinInt, math.MinInt + 1, math.MinInt + 257, math.MinInt32, -32768, -258, -257, -1, 65536, 1 << 16, 1<<32 + 3, 1<<32 + 257, math.MaxInt32, math.MaxInt - 257, math.MaxInt - 1, math.MaxInt}

func TestTheExample(t *testing.T) { // P11.1
	if code, bits, value := symbol.Length(12); code != 265 || bits != 1 || value != 1 {
		t.Errorf("12 is %d, %d, %d", code, bits, value)
	}
	if code, bits, value := symbol.Dist(8); code != 5 || bits != 1 || value != 1 {
		t.Errorf("8 is %d, %d, %d", code, bits, value)
	}
}

func TestCodesThatTheChapterTells(t *testing.T) { // P11.1
	for _, c := range []struct{ n, code, bits, value int }{
		{2, 0, 0, 0}, {3, 257, 0, 0}, {4, 258, 0, 0}, {9, 263, 0, 0}, {10, 264, 0, 0}, {11, 265, 1, 0}, {12, 265, 1, 1}, {13, 266, 1, 0}, {18, 268, 1, 1}, {19, 269, 2, 0},
		{227, 284, 5, 0}, {257, 284, 5, 30}, {258, 285, 0, 0}, {259, 0, 0, 0}, {0, 0, 0, 0}, {1, 0, 0, 0}, {-3, 0, 0, 0},
	} {
		if code, bits, value := symbol.Length(c.n); code != c.code || bits != c.bits || value != c.value {
			t.Errorf("the length %d is %d, %d, %d", c.n, code, bits, value)
		}
	}
	for _, c := range []struct{ n, code, bits, value int }{
		{0, 0, 0, 0}, {1, 0, 0, 0}, {2, 1, 0, 0}, {3, 2, 0, 0}, {4, 3, 0, 0}, {5, 4, 1, 0}, {6, 4, 1, 1}, {7, 5, 1, 0}, {8, 5, 1, 1}, {9, 6, 2, 0}, {12, 6, 2, 3}, {13, 7, 2, 0},
		{24576, 28, 13, 8191}, {24577, 29, 13, 0}, {32768, 29, 13, 8191}, {32769, 0, 0, 0}, {-1, 0, 0, 0},
	} {
		if code, bits, value := symbol.Dist(c.n); code != c.code || bits != c.bits || value != c.value {
			t.Errorf("the distance %d is %d, %d, %d", c.n, code, bits, value)
		}
	}
}

func TestAllNumbers(t *testing.T) { // P11.1
	for _, k := range kinds() {
		check := func(n int) {
			wantCode, wantBits, wantValue := called(k.all, n, k.greatest)
			if code, bits, value := k.call(n); code != wantCode || bits != wantBits || value != wantValue {
				t.Errorf("the %s %d is %d, %d, %d, not %d, %d, %d", k.name, n, code, bits, value, wantCode, wantBits, wantValue)
			}
		}
		for n := -300; n < 34000; n++ {
			check(n)
		}
		for _, n := range far {
			check(n)
		}
	}
}

func TestAllCodes(t *testing.T) { // P11.1
	for _, k := range kinds() {
		check := func(code int) {
			at := slices.IndexFunc(k.all, func(s span) bool { return s.code == code })
			var want span
			if at >= 0 {
				want = k.all[at]
			}
			if base, bits, ok := k.base(code); base != want.least || bits != want.bits || ok != (at >= 0) {
				t.Errorf("the %s code %d is %d, %d, %v, not %+v", k.name, code, base, bits, ok, want)
			}
		}
		for code := -400; code < 34000; code++ {
			check(code)
		}
		for _, code := range far {
			check(code)
		}
	}
}

func TestWhatIsCalledIsMeant(t *testing.T) { // P11.2
	for _, k := range kinds() {
		ahead := 0
		for n := k.least; n <= k.greatest; n++ {
			code, bits, value := k.call(n)
			base, size, ok := k.base(code)
			if base+value != n || size != bits || !ok || value < 0 || value >= 1<<bits {
				t.Errorf("the %s %d is %d, %d, %d, but that means %d, %d, %v", k.name, n, code, bits, value, base, size, ok)
			}
			if code < ahead {
				t.Errorf("the %s %d has the code %d, a lesser one %d", k.name, n, code, ahead)
			}
			ahead = code
		}
		if last := k.all[len(k.all)-1].code; ahead != last {
			t.Errorf("the greatest %s has the code %d, not %d", k.name, ahead, last)
		}
	}
}

func TestOrder(t *testing.T) { // P11.1
	want := []int{16, 17, 18, 0, 8, 7, 9, 6, 10, 5, 11, 4, 12, 3, 13, 2, 14, 1, 15}
	order := symbol.Order()
	if !slices.Equal(order, want) {
		t.Errorf("%v", order)
	}
	spare := order[:cap(order)]
	for i := range spare {
		spare[i] = 99
	}
	if again := symbol.Order(); !slices.Equal(again, want) {
		t.Errorf("what was answered is kept: %v", again)
	}
}
