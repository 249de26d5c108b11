package gf_test

import (
	"math"
	"slices"
	"testing"

	"footlocker/gf"
)

// longhand multiplies as one does on paper: all bits by all bits, and then the modulus taken off from the top. It shares no step with the program.
func longhand(a, b byte) byte {
	wide := 0
	for i := range 8 {
		for k := range 8 {
			wide ^= int(a>>i&1) * int(b>>k&1) << (i + k)
		}
	}
	for top := 14; top >= 8; top-- {
		if wide>>top&1 == 1 {
			wide ^= 0x11D << (top - 8)
		}
	}
	return byte(wide)
}

// all is a table of all bytes' products by longhand.
func all() *[256][256]byte {
	var table [256][256]byte
	for a := range 256 {
		for b := range 256 {
			table[a][b] = longhand(byte(a), byte(b))
		}
	}
	return &table
}

func TestExample(t *testing.T) { // P1.1
	if got := gf.Mul(0x80, 0x02); got != 0x1D {
		t.Errorf("80 times 02 = %X", got)
	}
}

func TestAddAndMulOfAllBytes(t *testing.T) { // P1.1
	want := all()
	for a := range 256 {
		for b := range 256 {
			if got := gf.Add(byte(a), byte(b)); int(got) != a^b {
				t.Fatalf("%X + %X = %X", a, b, got)
			}
			if got := gf.Mul(byte(a), byte(b)); got != want[a][b] {
				t.Fatalf("%X * %X = %X, not %X", a, b, got, want[a][b])
			}
		}
	}
}

func TestInvAndDivOfAllBytes(t *testing.T) { // P1.1
	want := all()
	if gf.Inv(0) != 0 {
		t.Errorf("Inv(0) = %X", gf.Inv(0))
	}
	for a := range 256 {
		if a > 0 && want[a][gf.Inv(byte(a))] != 1 {
			t.Errorf("Inv(%X) = %X", a, gf.Inv(byte(a)))
		}
		if got, ok := gf.Div(byte(a), 0); got != 0 || ok {
			t.Errorf("%X / 0 = %X, %v", a, got, ok)
		}
		for b := 1; b < 256; b++ {
			if got, ok := gf.Div(want[a][b], byte(b)); int(got) != a || !ok {
				t.Fatalf("%X / %X = %X, %v", want[a][b], b, got, ok)
			}
		}
	}
}

func TestPowGoesUpAndDown(t *testing.T) { // P1.1
	for a := 1; a < 256; a++ {
		up, down := byte(1), byte(1)
		for n := range 600 {
			if got := gf.Pow(byte(a), n); got != up {
				t.Fatalf("%X to the %d = %X, not %X", a, n, got, up)
			}
			if got := gf.Pow(byte(a), -n); got != down {
				t.Fatalf("%X to the %d = %X, not %X", a, -n, got, down)
			}
			up, down = longhand(up, byte(a)), longhand(down, gf.Inv(byte(a)))
		}
	}
}

func TestPowOfNought(t *testing.T) { // P1.1
	if gf.Pow(0, 0) != 1 {
		t.Error("0 to the 0th isn't 1")
	}
	for _, n := range []int{1, 2, 254, 255, 256, 510, -1, -254, -255, -256, math.MaxInt, math.MinInt, math.MaxInt - 7, math.MinInt + 8} {
		if got := gf.Pow(0, n); got != 0 {
			t.Errorf("0 to the %d = %X", n, got)
		}
	}
}

func TestPowOfGreatExponents(t *testing.T) { // P1.1
	for _, n := range []int{math.MaxInt, math.MaxInt - 1, math.MinInt, math.MinInt + 1, 1 << 40, -1 << 40, math.MaxInt32, math.MinInt32} {
		rest := n % 255
		if rest < 0 {
			rest += 255
		}
		for a := 1; a < 256; a++ {
			want := byte(1)
			for range rest {
				want = longhand(want, byte(a))
			}
			if got := gf.Pow(byte(a), n); got != want {
				t.Fatalf("%X to the %d = %X, not %X", a, n, got, want)
			}
		}
		if gf.Exp(n) != gf.Exp(rest) {
			t.Errorf("Exp(%d) = %X", n, gf.Exp(n))
		}
	}
}

func TestExpAndLog(t *testing.T) { // P1.1
	if gf.Log(0) != -1 {
		t.Errorf("Log(0) = %d", gf.Log(0))
	}
	power := byte(1)
	for n := range 255 {
		for _, turns := range []int{0, 255, 510, -255, -510} {
			if got := gf.Exp(n + turns); got != power {
				t.Fatalf("Exp(%d) = %X, not %X", n+turns, got, power)
			}
		}
		if got := gf.Log(power); got != n {
			t.Fatalf("Log(%X) = %d, not %d", power, got, n)
		}
		power = longhand(power, 2)
	}
	if power != 1 {
		t.Errorf("x to the 255th = %X", power)
	}
}

func TestDot(t *testing.T) { // P1.1
	for _, c := range []struct {
		a, b []byte
		want byte
	}{
		{nil, nil, 0},
		{nil, []byte{1, 2}, 0},
		{[]byte{}, []byte{1}, 0},
		{[]byte{255}, []byte{0}, 0},
		{[]byte{2, 1, 9}, []byte{0x80, 3}, 0x1D ^ 3},
		{[]byte{0x80, 3}, []byte{2, 1, 9}, 0x1D ^ 3},
		{[]byte{7, 7}, []byte{9, 9}, 0},
		{[]byte{255, 254, 1}, []byte{255, 253, 200}, longhand(255, 255) ^ longhand(254, 253) ^ 200},
	} {
		if got := gf.Dot(c.a, c.b); got != c.want {
			t.Errorf("Dot(%v, %v) = %X, not %X", c.a, c.b, got, c.want)
		}
	}
}

func TestScale(t *testing.T) { // P1.1
	if got := gf.Scale(nil, 7); len(got) != 0 {
		t.Errorf("Scale(nil, 7) = %v", got)
	}
	every := make([]byte, 256)
	for i := range every {
		every[i] = byte(i)
	}
	for by := range 256 {
		got := gf.Scale(every, byte(by))
		if len(got) != len(every) {
			t.Fatalf("%d bytes", len(got))
		}
		for i, v := range got {
			if v != longhand(byte(i), byte(by)) {
				t.Fatalf("%X by %X = %X", i, by, v)
			}
		}
	}
}

func TestRowsAreNeitherTurnedNorKept(t *testing.T) { // P2, and the rules that hold everywhere
	whole := []byte{1, 2, 3, 0xA5, 0xA5}
	a, b := whole[:3], []byte{9, 8, 7, 6}
	first := gf.Scale(a, 2)
	gf.Dot(a, b)
	if !slices.Equal(whole, []byte{1, 2, 3, 0xA5, 0xA5}) || !slices.Equal(b, []byte{9, 8, 7, 6}) {
		t.Errorf("turned: %v %v", whole, b)
	}
	clear(whole)
	if !slices.Equal(first, []byte{2, 4, 6}) {
		t.Errorf("shared: %v", first)
	}
	room := first[:cap(first)]
	for i := range room {
		room[i] = 0xFF
	}
	if !slices.Equal(whole, make([]byte, 5)) {
		t.Errorf("its room is shared: %v", whole)
	}
}

func TestSumsAndProductsGoInAnyOrder(t *testing.T) { // P1.2
	var mul [256][256]byte
	for a := range 256 {
		for b := range 256 {
			mul[a][b] = gf.Mul(byte(a), byte(b))
		}
	}
	for a := range 256 {
		if mul[a][1] != byte(a) || mul[a][0] != 0 || gf.Add(byte(a), 0) != byte(a) || gf.Add(byte(a), byte(a)) != 0 {
			t.Fatalf("%X by 0 and 1", a)
		}
		for b := range 256 {
			if mul[a][b] != mul[b][a] || gf.Add(byte(a), byte(b)) != gf.Add(byte(b), byte(a)) {
				t.Fatalf("%X, %X: not in any order", a, b)
			}
			for c := range 256 {
				if mul[mul[a][b]][c] != mul[a][mul[b][c]] {
					t.Fatalf("%X * %X * %X", a, b, c)
				}
				if mul[a][gf.Add(byte(b), byte(c))] != gf.Add(mul[a][b], mul[a][c]) {
					t.Fatalf("%X * (%X + %X)", a, b, c)
				}
			}
		}
	}
}

func TestJustOneInverse(t *testing.T) { // P1.2
	for a := range 256 {
		ones := 0
		for b := range 256 {
			if gf.Mul(byte(a), byte(b)) == 1 {
				ones++
			}
		}
		if a == 0 && ones != 0 || a > 0 && ones != 1 {
			t.Errorf("%X has %d inverses", a, ones)
		}
	}
}
