package local_test

import (
	"bytes"
	"encoding/binary"
	"math"
	"math/rand/v2"
	"runtime"
	"slices"
	"strings"
	"testing"

	"footlocker/api"
	"footlocker/local"
)

// day is a right stamp.
var day = api.Stamp{Year: 2026, Month: 11, Day: 19, Hour: 20, Minute: 7, Second: 42}

// plain and great are right headers, of either kind.
var (
	plain = local.Header{Method: 8, Time: day, Sum: 0xCBF43926, Packed: 5, Size: 258, Name: "a/b"}
	great = local.Header{Method: 0, Time: day, Sum: 1, Packed: 1<<32 + 7, Size: 9, Name: "é"}
)

// sizes are those that fit, and don't.
var sizes = []uint64{0, 1, 255, 256, 258, 1<<16 - 1, 1 << 16, 1<<31 - 1, 1 << 31, over - 1, over, over + 1, over + 2, 1 << 33, 1 << 40, 1<<63 - 1, 1 << 63, math.MaxUint64 - 1, math.MaxUint64}

func TestTheExample(t *testing.T) { // P18.1
	if n := local.Size(local.Header{Name: "a"}); n != 31 {
		t.Errorf("%d", n)
	}
	if b, e := local.Write(local.Header{Time: api.Stamp{Year: 1980, Month: 1, Day: 1}, Name: "a"}); len(b) != 31 || e != api.OK {
		t.Errorf("%x, %d", b, e)
	}
}

func TestBytesOfHeaders(t *testing.T) { // P18.1
	for _, c := range []struct {
		h    local.Header
		want string
	}{
		{plain, "PK\x03\x04\x14\x00\x00\x08\x08\x00\xF5\xA0\x73\x5D\x26\x39\xF4\xCB\x05\x00\x00\x00\x02\x01\x00\x00\x03\x00\x00\x00a/b"},
		{great, "PK\x03\x04\x2D\x00\x00\x08\x00\x00\xF5\xA0\x73\x5D\x01\x00\x00\x00\xFF\xFF\xFF\xFF\xFF\xFF\xFF\xFF\x02\x00\x14\x00é\x01\x00\x10\x00\x09\x00\x00\x00\x00\x00\x00\x00\x07\x00\x00\x00\x01\x00\x00\x00"},
	} {
		if b, e := local.Write(c.h); string(b) != c.want || e != api.OK {
			t.Errorf("%x, %d, not %x", b, e, c.want)
		}
		likewise(t, c.h)
	}
}

func TestAllSizes(t *testing.T) { // P18.1, P18.2
	for _, packed := range sizes {
		for _, size := range sizes {
			for _, method := range []int{0, 8} {
				likewise(t, local.Header{Method: method, Time: day, Sum: uint32(packed), Packed: packed, Size: size, Name: "x"})
				likewise(t, local.Header{Method: method, Packed: packed, Size: size})
			}
		}
	}
	for _, sum := range []uint32{0, 1, 255, 1 << 8, 1 << 16, 1 << 24, 0x04034B50, 0x01020304, 1 << 31, math.MaxUint32} {
		h, g := plain, great
		h.Sum, g.Sum = sum, sum
		likewise(t, h)
		likewise(t, g)
	}
}

func TestAllNames(t *testing.T) { // P18.1, P18.2
	for n := range 300 {
		for _, h := range []local.Header{plain, great} {
			h.Name = strings.Repeat("n", n)
			likewise(t, h)
		}
	}
	for _, name := range []string{"é/日", "\U00010000", "PK\x03\x04", "a//b", "/", "..", "a\\b", "a:b", "\x00", "\xFF", "\uFFFD", "a/", "...", strings.Repeat("/", 300), strings.Repeat("é", 127), strings.Repeat("é", 128)} {
		for _, h := range []local.Header{plain, great} {
			h.Name = name
			likewise(t, h)
		}
	}
}

func TestSizeOfLongNames(t *testing.T) { // P18.1
	for _, n := range []int{255, 256, 1000, 65534, 65535, 65536, 65537, 1 << 17, 1<<17 + 5} {
		for _, h := range []local.Header{plain, great, {Method: -1}} {
			h.Name = strings.Repeat("n", n)
			likewise(t, h)
		}
	}
}

func TestErrorsOfWrite(t *testing.T) { // P18.1, P1
	methods := []int{0, 8, 1, 7, 9, -8, -1, 1 << 16, 1<<16 + 8, 1<<32 + 8, math.MinInt, math.MaxInt}
	times := []api.Stamp{day, {}, {Year: 1979, Month: 1, Day: 1}, {Year: 2108, Month: 1, Day: 1}, {Year: 2026, Month: 2, Day: 29}, {Year: 2026, Month: 2, Day: 3, Second: 5}, {Year: 1980 + 128, Month: 1, Day: 1}, {Year: math.MinInt, Month: math.MaxInt, Day: -1}}
	for _, method := range methods {
		for _, at := range times {
			for _, name := range []string{"a", "", "a//b", strings.Repeat("n", 255), strings.Repeat("n", 256)} {
				for _, size := range []uint64{3, over} {
					likewise(t, local.Header{Method: method, Time: at, Packed: size, Size: 4, Name: name})
				}
			}
		}
	}
}

func TestEachByteTurned(t *testing.T) { // P18.1, P18.2
	met := map[api.Errno]int{}
	for _, h := range []local.Header{plain, great, {Time: day, Packed: over, Size: over, Name: "x"}, {Time: day, Size: over + 1, Name: "x"}, {Time: day, Packed: over - 1, Size: over - 1, Name: "x"}} {
		for _, behind := range []string{"", "a", strings.Repeat("b", 1000), strings.Repeat("\x00", 1<<17)} {
			b := append(written(h), behind...)
			for at := range local.Size(h) {
				for v := range 256 {
					was := b[at]
					b[at] = byte(v)
					met[told(t, b)]++
					b[at] = was
				}
			}
		}
	}
	for _, e := range []api.Errno{api.OK, api.ErrSign, api.ErrShort, api.ErrForm, api.ErrMethod, api.ErrTime, api.ErrName} {
		if met[e] == 0 {
			t.Errorf("%d is never met", e)
		}
	}
}

func TestCutOff(t *testing.T) { // P18.1
	for _, h := range []local.Header{plain, great} {
		b := written(h)
		for n := range len(b) {
			want := api.ErrShort
			if n < 4 {
				want = api.ErrSign
			}
			if e := told(t, b[:n:n]); e != want {
				t.Errorf("%d bytes: %d", n, e)
			}
		}
	}
	told(t, nil)
	told(t, []byte{})
	if e := told(t, []byte("PK\x03\x05"+strings.Repeat("x", 40))); e != api.ErrSign {
		t.Errorf("%d", e)
	}
}

// put lays a number of two bytes over others.
func put(b []byte, at int, n uint16) []byte {
	b = slices.Clone(b)
	binary.LittleEndian.PutUint16(b[at:], n)
	return b
}

// put4 lays a number of four bytes over others.
func put4(b []byte, at int, n uint32) []byte {
	b = slices.Clone(b)
	binary.LittleEndian.PutUint32(b[at:], n)
	return b
}

func TestGreatOnesThatNeedNotBe(t *testing.T) { // P18.1
	b := written(local.Header{Time: day, Packed: over, Size: over, Name: "x"})
	for _, size := range sizes {
		for _, packed := range sizes {
			c := slices.Clone(b)
			binary.LittleEndian.PutUint64(c[35:], size)
			binary.LittleEndian.PutUint64(c[43:], packed)
			want := api.OK
			if size < over && packed < over {
				want = api.ErrForm
			}
			if e := told(t, c); e != want {
				t.Errorf("%d, %d: %d", size, packed, e)
			}
		}
	}
}

func TestNumbersThatDoNotAgree(t *testing.T) { // P18.1
	few, many := append(written(plain), make([]byte, 100)...), append(written(great), make([]byte, 100)...)
	for i, b := range [][]byte{
		put(few, 4, 45), put(many, 4, 20), put(few, 4, 0), put(few, 4, 20<<8), put(many, 4, 46), // the version
		put(few, 6, 0), put(few, 6, 8), put(few, 6, 2049), put(many, 6, 0), // what is always 2048
		put4(few, 18, over), put4(few, 22, over), put4(put4(few, 18, over), 22, over), put4(put(few, 4, 45), 18, over), // sizes of which nothing stands behind the name
		put4(many, 18, 7), put4(many, 22, 9), put4(put4(many, 18, 7), 22, 9), put4(many, 18, over-1), // sizes that stand there twice
		put(few, 28, 1), put(few, 28, 20), put(few, 28, 16), put(few, 28, 100), put(many, 28, 0), put(many, 28, 19), put(many, 28, 21), put(many, 28, 16), put(many, 28, 4), put(many, 28, 40), // how many stand there
		put(many, 32, 0), put(many, 32, 2), put(many, 34, 15), put(many, 34, 17), put(many, 34, 0), // what these are
		put(many, 26, 1), put(many, 26, 3), put(many, 26, 0), // then other bytes stand behind the name
	} {
		if e := told(t, b); e != api.ErrForm {
			t.Errorf("case %d: %d", i, e)
		}
	}
}

// faults are ways to make a header's bytes wrong, one for each error, in the order of the errors.
var faults = []struct {
	e    api.Errno
	turn func(b []byte) []byte
}{
	{api.ErrSign, func(b []byte) []byte { return put(b, 2, 0x0201) }},
	{api.ErrShort, func(b []byte) []byte { return put(b, 26, 60000) }},
	{api.ErrForm, func(b []byte) []byte { return put(b, 6, 1) }},
	{api.ErrMethod, func(b []byte) []byte { return put(b, 8, 9) }},
	{api.ErrTime, func(b []byte) []byte { return put(b, 12, 0) }},
	{api.ErrName, func(b []byte) []byte { b = slices.Clone(b); b[30] = 0; return b }},
}

func TestErrorsInOrder(t *testing.T) { // P18.1, P1
	for _, h := range []local.Header{plain, great} {
		for which := range 1 << len(faults) {
			b, want := written(h), api.OK
			for i, f := range slices.Backward(faults) {
				if which>>i&1 == 1 {
					b, want = f.turn(b), f.e
				}
			}
			if e := told(t, b); e != want {
				t.Errorf("%b: %d, not %d", which, e, want)
			}
		}
	}
}

func TestNamesThatAreRead(t *testing.T) { // P18.1
	for _, n := range []int{0, 1, 254, 255, 256, 300, 65534, 65535} {
		for _, h := range []local.Header{plain, great} {
			h.Name = strings.Repeat("n", n)
			want := api.OK
			if n < 1 || n > 255 {
				want = api.ErrName
			}
			b := written(h)
			if e := told(t, b); e != want {
				t.Errorf("%d bytes: %d", n, e)
			}
			if e := told(t, b[:len(b)-1]); e != api.ErrShort {
				t.Errorf("%d bytes, and one is missing: %d", n, e)
			}
		}
	}
}

func TestAllMethodsAndTimes(t *testing.T) { // P18.1, P18.2
	for n := range 1 << 16 {
		for _, h := range []local.Header{plain, great} {
			b := written(h)
			for _, at := range []int{8, 10, 12} {
				told(t, put(b, at, uint16(n)))
			}
		}
	}
}

// made is a header, mostly a right one.
func made(r *rand.Rand) local.Header {
	h := local.Header{Method: 8 * r.IntN(2), Time: day, Sum: r.Uint32(), Packed: r.Uint64() >> r.IntN(64), Size: r.Uint64() >> r.IntN(64)}
	h.Time.Year, h.Time.Month, h.Time.Day, h.Time.Second = 1980+r.IntN(128), 1+r.IntN(12), 1+r.IntN(30), r.IntN(59)&^1
	for range 1 + r.IntN(12) {
		h.Name += string(rune(r.IntN(0x300)))
	}
	return h
}

func TestMadeHeaders(t *testing.T) { // P18.1, P18.2
	r := source()
	for range 100000 {
		likewise(t, made(r))
	}
}

func TestMadeBytes(t *testing.T) { // P18.1, P18.2
	r := source()
	for range 200000 {
		b := written(made(r))
		for range r.IntN(4) {
			b[r.IntN(len(b))] = []byte{0, 1, 20, 45, 255, byte(r.IntN(256))}[r.IntN(6)]
		}
		for range r.IntN(40) {
			b = append(b, byte(r.IntN(256)))
		}
		told(t, b[:len(b)-r.IntN(2)*r.IntN(len(b))])
	}
}

func TestWhatIsHandedInIsNotTurned(t *testing.T) { // P2
	for _, h := range []local.Header{plain, great} {
		room := append(written(h), 1, 2, 3)
		was := slices.Clone(room)
		b := room[:len(room)-3]
		got, _, _ := local.Parse(b)
		if !bytes.Equal(room, was) {
			t.Errorf("%x", room)
		}
		clear(room)
		if got != h {
			t.Errorf("what was handed in is kept: %+v", got)
		}
	}
}

func TestAnswersAreNew(t *testing.T) { // Rules
	for _, h := range []local.Header{plain, great} {
		a, _ := local.Write(h)
		b, _ := local.Write(h)
		clear(a[:cap(a)])
		if c, _ := local.Write(h); !bytes.Equal(b, written(h)) || !bytes.Equal(c, b) {
			t.Errorf("%x, %x", b, c)
		}
	}
}

// taken is how many bytes of memory a call takes.
func taken(call func()) uint64 {
	var before, after runtime.MemStats
	runtime.ReadMemStats(&before)
	call()
	runtime.ReadMemStats(&after)
	return after.TotalAlloc - before.TotalAlloc
}

func TestLongRowsAreNotCopied(t *testing.T) { // section 'Promises': a volume may begin with many headers, and each is parsed from what is left
	b := append(written(plain), make([]byte, 1<<24)...)
	if n := taken(func() { local.Parse(b) }); n > 1<<20 {
		t.Errorf("%d bytes of memory for a header of %d", n, local.Size(plain))
	}
}
