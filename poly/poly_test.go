package poly_test

import (
	"bytes"
	"math/rand/v2"
	"slices"
	"testing"

	"footlocker/api"
	"footlocker/gf"
	"footlocker/poly"
)

// source tells the same numbers in each run.
func source() *rand.Rand { return rand.New(rand.NewPCG(1, 2)) }

// some is a row of at most so many bytes, now and then with noughts within it and at its end.
func some(r *rand.Rand, most int) []byte {
	p := make([]byte, r.IntN(most+1))
	for i := range p {
		if r.IntN(4) > 0 {
			p[i] = byte(r.IntN(256))
		}
	}
	for i := range r.IntN(4) {
		if i < len(p) && r.IntN(2) == 0 {
			p[len(p)-1-i] = 0
		}
	}
	return p
}

// few are the rows that the chapter's words are about, and some others.
func few() [][]byte {
	rows := [][]byte{nil, {}, {0}, {0, 0, 0}, {1}, {255}, {0, 1}, {1, 0}, {5, 2}, {5, 2, 0, 0}, {0, 0, 7}, {255, 255, 255, 255}, make([]byte, 300)}
	r := source()
	for range 60 {
		rows = append(rows, some(r, 12))
	}
	for range 4 {
		rows = append(rows, some(r, 400))
	}
	return rows
}

// value is what a polynomial is at x, power by power.
func value(p []byte, x byte) byte {
	sum := byte(0)
	for i, v := range p {
		sum ^= gf.Mul(v, gf.Pow(x, i))
	}
	return sum
}

// same tells whether two rows are the same but for noughts at their ends.
func same(p, q []byte) bool {
	return bytes.Equal(bytes.TrimRight(p, "\x00"), bytes.TrimRight(q, "\x00"))
}

func trimmed(p []byte) bool { return len(p) == 0 || p[len(p)-1] != 0 }

// places are so many bytes, each another one.
func places(r *rand.Rand, n int) []byte {
	xs := make([]byte, n)
	for i, v := range r.Perm(256)[:n] {
		xs[i] = byte(v)
	}
	return xs
}

func values(p, xs []byte) []byte {
	ys := make([]byte, len(xs))
	for i, x := range xs {
		ys[i] = value(p, x)
	}
	return ys
}

func TestTrimAndDegree(t *testing.T) { // P2.1
	for _, c := range []struct {
		p      []byte
		degree int
	}{
		{nil, -1}, {[]byte{}, -1}, {[]byte{0}, -1}, {make([]byte, 1000), -1},
		{[]byte{7}, 0}, {[]byte{7, 0, 0}, 0}, {[]byte{0, 1}, 1}, {[]byte{0, 1, 0}, 1}, {[]byte{0, 0, 255}, 2},
		{append(make([]byte, 300), 1), 300},
	} {
		if got := poly.Degree(c.p); got != c.degree {
			t.Errorf("Degree(%v) = %d, not %d", c.p, got, c.degree)
		}
		if got := poly.Trim(c.p); !slices.Equal(got, c.p[:c.degree+1]) {
			t.Errorf("Trim(%v) = %v", c.p, got)
		}
	}
}

func TestAdd(t *testing.T) { // P2.1
	for _, p := range few() {
		for _, q := range few() {
			want := make([]byte, max(len(p), len(q)))
			copy(want, p)
			for i, v := range q {
				want[i] ^= v
			}
			if got := poly.Add(p, q); !same(got, want) || !trimmed(got) {
				t.Fatalf("%v + %v = %v", p, q, got)
			}
		}
	}
	if got := poly.Add([]byte{1, 2, 3}, []byte{1, 2, 3, 0}); len(got) != 0 {
		t.Errorf("with itself: %v", got)
	}
}

func TestMul(t *testing.T) { // P2.1
	for _, p := range few() {
		for _, q := range few() {
			want := make([]byte, len(p)+len(q))
			for i, v := range p {
				for k, u := range q {
					want[i+k] ^= gf.Mul(v, u)
				}
			}
			if got := poly.Mul(p, q); !same(got, want) || !trimmed(got) {
				t.Fatalf("%v * %v = %v", p, q, got)
			}
		}
	}
}

func TestEval(t *testing.T) { // P2.1
	for _, p := range few() {
		for x := range 256 {
			if got := poly.Eval(p, byte(x)); got != value(p, byte(x)) {
				t.Fatalf("%v at %d = %d, not %d", p, x, got, value(p, byte(x)))
			}
		}
	}
}

func TestDivModIsTimesAndAddedAgain(t *testing.T) { // P2.1, P2.2, P3
	for _, p := range few() {
		for _, q := range few() {
			quotient, rest, ok := poly.DivMod(p, q)
			if poly.Degree(q) < 0 {
				if ok || len(quotient) != 0 || len(rest) != 0 {
					t.Fatalf("%v / %v = %v, %v, %v", p, q, quotient, rest, ok)
				}
				continue
			}
			if !ok || !trimmed(quotient) || !trimmed(rest) || poly.Degree(rest) >= poly.Degree(q) {
				t.Fatalf("%v / %v = %v, %v, %v", p, q, quotient, rest, ok)
			}
			if again := poly.Add(poly.Mul(q, quotient), rest); !same(again, p) {
				t.Fatalf("%v / %v = %v, %v: that is %v", p, q, quotient, rest, again)
			}
		}
	}
}

func TestDivModEdges(t *testing.T) { // P2.1
	for _, c := range []struct{ p, q, quotient, rest []byte }{
		{[]byte{3, 0, 1, 0}, []byte{1, 1, 0}, []byte{1, 1}, []byte{2}},
		{[]byte{3, 1, 0}, []byte{1, 1, 1}, nil, []byte{3, 1}},
		{[]byte{6, 9}, []byte{1}, []byte{6, 9}, nil},
		{[]byte{4, 2}, []byte{2, 0, 0}, []byte{2, 1}, nil},
		{nil, []byte{0, 5}, nil, nil},
		{[]byte{0, 0, 0}, []byte{5}, nil, nil},
		{[]byte{1, 0, 1}, []byte{1, 0, 1}, []byte{1}, nil},
	} {
		quotient, rest, ok := poly.DivMod(c.p, c.q)
		if !ok || !slices.Equal(quotient, c.quotient) || !slices.Equal(rest, c.rest) {
			t.Errorf("%v / %v = %v, %v, %v", c.p, c.q, quotient, rest, ok)
		}
	}
}

func TestThroughExamples(t *testing.T) { // P2.1
	for _, c := range []struct{ xs, ys, want []byte }{
		{nil, nil, nil},
		{[]byte{}, nil, nil},
		{[]byte{0}, []byte{0}, nil},
		{[]byte{200}, []byte{9}, []byte{9}},
		{[]byte{0, 1}, []byte{5, 7}, []byte{5, 2}},
		{[]byte{1, 0}, []byte{7, 5}, []byte{5, 2}},
		{[]byte{4, 9, 200}, []byte{8, 8, 8}, []byte{8}},
		{[]byte{4, 9, 200}, []byte{0, 0, 0}, nil},
		{[]byte{4, 9, 200}, []byte{4, 9, 200}, []byte{0, 1}},
	} {
		if got, e := poly.Through(c.xs, c.ys); e != api.OK || !slices.Equal(got, c.want) {
			t.Errorf("through %v at %v: %v, %d", c.xs, c.ys, got, e)
		}
	}
}

func TestThroughErrorsInOrder(t *testing.T) { // P2.1, P1
	long := make([]byte, 257)
	for i := range long {
		long[i] = byte(i)
	}
	for _, c := range []struct {
		xs, ys []byte
		want   api.Errno
	}{
		{[]byte{1}, nil, api.ErrArg},
		{nil, []byte{1}, api.ErrArg},
		{[]byte{1, 2}, []byte{1}, api.ErrArg},
		{[]byte{4, 4}, []byte{8}, api.ErrArg},
		{[]byte{4, 4}, []byte{8, 8, 8}, api.ErrArg},
		{[]byte{4, 4}, []byte{8, 8}, api.ErrTwice},
		{[]byte{4, 4}, []byte{8, 9}, api.ErrTwice},
		{[]byte{0, 9, 255, 0}, []byte{1, 2, 3, 4}, api.ErrTwice},
		{[]byte{9, 255, 0, 255}, []byte{1, 2, 3, 4}, api.ErrTwice},
		{long, long, api.ErrTwice},
		{make([]byte, 1<<16), make([]byte, 1<<16), api.ErrTwice},
	} {
		if got, e := poly.Through(c.xs, c.ys); e != c.want || len(got) != 0 {
			t.Errorf("through %d places, %d values: %v, %d, not %d", len(c.xs), len(c.ys), got, e, c.want)
		}
	}
}

func TestThroughWhateverValues(t *testing.T) { // P2.1: a degree below how many places there are is the least, for there is just one such
	r := source()
	for _, n := range []int{1, 2, 3, 5, 10, 60, 255, 256} {
		for range 4 {
			xs, ys := places(r, n), make([]byte, n)
			for i := range ys {
				ys[i] = byte(r.IntN(256))
			}
			p, e := poly.Through(xs, ys)
			if e != api.OK || !trimmed(p) || len(p) > n || !slices.Equal(values(p, xs), ys) {
				t.Fatalf("through %v at %v: %v, %d", ys, xs, p, e)
			}
		}
	}
}

func TestThroughItsOwnValues(t *testing.T) { // P2.2, P4
	r := source()
	for _, p := range few() {
		least := poly.Degree(p) + 1
		for _, n := range []int{least, least + 1, least + 7, 256} {
			if n > 256 || n < least {
				continue
			}
			xs := places(r, n)
			got, e := poly.Through(xs, values(p, xs))
			if e != api.OK || !slices.Equal(got, p[:least]) {
				t.Fatalf("%v, told by %d places, is %v, %d", p, n, got, e)
			}
		}
	}
}

// rows hands rows to each call of the package, and has what they answer.
func rows(p, q []byte) [][]byte {
	quotient, rest, _ := poly.DivMod(p, q)
	through, _ := poly.Through(p, q)
	poly.Degree(p)
	poly.Eval(p, 3)
	return [][]byte{poly.Trim(p), poly.Add(p, q), poly.Mul(p, q), quotient, rest, through}
}

func TestRowsAreNeitherTurnedNorKept(t *testing.T) { // P2, and the rules that hold everywhere
	for _, c := range []struct{ p, q []byte }{
		{[]byte{1, 2, 3}, []byte{5, 6, 7}},
		{[]byte{1, 2, 3}, []byte{1, 5, 0}},
		{[]byte{1, 0, 0}, []byte{0, 0, 0}},
		{[]byte{1}, []byte{5, 6, 7}},
		{[]byte{1, 2, 3, 4}, []byte{9}},
		{[]byte{}, []byte{1, 2}},
	} {
		p, q := append(slices.Clone(c.p), 0xA5, 0xA5), append(slices.Clone(c.q), 0xA5, 0xA5)
		wantP, wantQ := slices.Clone(p), slices.Clone(q)
		first := rows(p[:len(c.p)], q[:len(c.q)])
		if !slices.Equal(p, wantP) || !slices.Equal(q, wantQ) {
			t.Fatalf("%v, %v are turned: %v, %v", c.p, c.q, p, q)
		}
		again := rows(p[:len(c.p)], q[:len(c.q)])
		clear(p)
		clear(q)
		for i := range first {
			if !slices.Equal(first[i], again[i]) {
				t.Errorf("%v, %v: answer %d was %v, and is %v", c.p, c.q, i, again[i], first[i])
			}
		}
		for i, answer := range first { // the room behind its length is its own, too
			room := answer[:cap(answer)]
			for k := range room {
				room[k] = 0xFF
			}
			for k, other := range first {
				if k > i && !slices.Equal(other, again[k]) {
					t.Errorf("%v, %v: answers %d and %d share room", c.p, c.q, i, k)
				}
			}
		}
		if !slices.Equal(p, make([]byte, len(p))) || !slices.Equal(q, make([]byte, len(q))) {
			t.Errorf("%v, %v: room is shared with an answer", c.p, c.q)
		}
	}
}
