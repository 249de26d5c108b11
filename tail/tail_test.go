package tail_test

import (
	"bytes"
	"math"
	"math/rand/v2"
	"runtime"
	"slices"
	"strings"
	"testing"

	"footlocker/api"
	"footlocker/tail"
)

const (
	most2 = 1<<16 - 1 // from here on the end tells a number of two bytes as this
	most4 = 1<<32 - 1 // and one of four
)

// nothing, little and huge are tails: one of no numbers, one whose numbers all fit in the end, and one of which none does.
var (
	nothing = tail.Tail{}
	little  = tail.Tail{Disk: 0x0102, Start: 0x0304, Here: 0x0506, Count: 0x0708, Size: 0x090A0B0C, Offset: 0x0D0E0F10, Disk64: 0x11121314, Disks: 0x15161718, Offset64: 0x191A1B1C1D1E1F20}
	huge    = tail.Tail{Disk: 1<<16 + 1, Start: 1<<16 + 2, Here: 1<<16 + 3, Count: 1<<16 + 4, Size: 1<<32 + 5, Offset: 1<<32 + 6, Disk64: 7, Disks: 8, Offset64: 1<<32 + 9}
)

// some are tails of each kind.
var some = []tail.Tail{nothing, little, huge}

func TestTheExample(t *testing.T) { // P20.1
	if b := tail.End(nothing); string(b) != "PK\x05\x06"+strings.Repeat("\x00", 18) {
		t.Errorf("%x", b)
	}
	likewise(t, nothing)
}

func TestBytesOfTails(t *testing.T) { // P20.1
	for _, x := range []struct {
		tail tail.Tail
		want three
	}{
		{little, three{
			[]byte("PK\x06\x06\x2C\x00\x00\x00\x00\x00\x00\x00\x2D\x00\x2D\x00\x02\x01\x00\x00\x04\x03\x00\x00\x06\x05\x00\x00\x00\x00\x00\x00\x08\x07\x00\x00\x00\x00\x00\x00\x0C\x0B\x0A\x09\x00\x00\x00\x00\x10\x0F\x0E\x0D\x00\x00\x00\x00"),
			[]byte("PK\x06\x07\x14\x13\x12\x11\x20\x1F\x1E\x1D\x1C\x1B\x1A\x19\x18\x17\x16\x15"),
			[]byte("PK\x05\x06\x02\x01\x04\x03\x06\x05\x08\x07\x0C\x0B\x0A\x09\x10\x0F\x0E\x0D\x00\x00"),
		}},
		{huge, three{
			[]byte("PK\x06\x06\x2C\x00\x00\x00\x00\x00\x00\x00\x2D\x00\x2D\x00\x01\x00\x01\x00\x02\x00\x01\x00\x03\x00\x01\x00\x00\x00\x00\x00\x04\x00\x01\x00\x00\x00\x00\x00\x05\x00\x00\x00\x01\x00\x00\x00\x06\x00\x00\x00\x01\x00\x00\x00"),
			[]byte("PK\x06\x07\x07\x00\x00\x00\x09\x00\x00\x00\x01\x00\x00\x00\x08\x00\x00\x00"),
			[]byte("PK\x05\x06\xFF\xFF\xFF\xFF\xFF\xFF\xFF\xFF\xFF\xFF\xFF\xFF\xFF\xFF\xFF\xFF\x00\x00"),
		}},
	} {
		again(t, x.tail, x.want)
		likewise(t, x.tail)
	}
}

// fields are ways to put a number in a tail, each in another place, with how great the end tells it at most (0: it doesn't).
var fields = []struct {
	most uint64
	put  func(t *tail.Tail, n uint64)
}{
	{most2, func(t *tail.Tail, n uint64) { t.Disk = uint32(min(n, most4)) }},
	{most2, func(t *tail.Tail, n uint64) { t.Start = uint32(min(n, most4)) }},
	{most2, func(t *tail.Tail, n uint64) { t.Here = n }},
	{most2, func(t *tail.Tail, n uint64) { t.Count = n }},
	{most4, func(t *tail.Tail, n uint64) { t.Size = n }},
	{most4, func(t *tail.Tail, n uint64) { t.Offset = n }},
	{0, func(t *tail.Tail, n uint64) { t.Disk64 = uint32(min(n, most4)) }},
	{0, func(t *tail.Tail, n uint64) { t.Disks = uint32(min(n, most4)) }},
	{0, func(t *tail.Tail, n uint64) { t.Offset64 = n }},
}

// numbers are those that fit, and don't.
var numbers = []uint64{0, 1, 255, 256, 32767, 32768, most2 - 1, most2, most2 + 1, most2 + 2, 1 << 17, 1 << 24, 1<<31 - 1, 1 << 31, most4 - 1, most4, most4 + 1, most4 + 2, 1 << 33, 1 << 48, 1<<63 - 1, 1 << 63, math.MaxUint64 - 1, math.MaxUint64}

func TestAllNumbers(t *testing.T) { // P20.1, P20.2
	for _, x := range some {
		for _, f := range fields {
			for _, g := range fields {
				for _, n := range numbers {
					for _, m := range numbers {
						y := x
						f.put(&y, n)
						g.put(&y, m)
						likewise(t, y)
					}
				}
			}
		}
	}
}

func TestEndsOfOtherTails(t *testing.T) { // P20.1
	for _, x := range some {
		for _, f := range fields {
			for _, n := range numbers {
				for _, m := range numbers {
					a, b := x, x
					f.put(&a, n)
					f.put(&b, m)
					want := api.ErrForm
					if a == b || f.most == 0 || min(n, f.most) == min(m, f.most) {
						want = api.OK
					}
					if e := told(t, three{written(a).great, written(a).locator, written(b).end}); e != want {
						t.Fatalf("%+v, and the end of %+v: %d", a, b, e)
					}
				}
			}
		}
	}
}

func TestEachByteTurned(t *testing.T) { // P20.1, P20.2
	met := map[api.Errno]int{}
	for _, x := range some {
		all := written(x)
		for _, b := range [][]byte{all.great, all.locator, all.end} {
			for at := range b {
				for v := range 256 {
					was := b[at]
					b[at] = byte(v)
					met[told(t, all)]++
					b[at] = was
				}
			}
		}
	}
	for _, e := range []api.Errno{api.OK, api.ErrSign, api.ErrForm} {
		if met[e] == 0 {
			t.Errorf("%d is never met", e)
		}
	}
}

func TestTwoBytesTurned(t *testing.T) { // P20.1, P20.2
	for _, x := range some {
		all := written(x)
		for at := range all.great {
			for to := range all.end {
				for _, v := range []byte{0, 1, 44, 45, 254, 255} {
					for _, w := range []byte{0, 1, 254, 255} {
						turned := written(x)
						turned.great[at], turned.end[to] = v, w
						told(t, turned)
					}
				}
			}
		}
	}
}

func TestNumbersThatAreAlwaysTheSame(t *testing.T) { // P20.1
	for _, x := range some {
		for _, at := range []int{4, 5, 11, 12, 13, 14, 15} {
			all := written(x)
			all.great[at] ^= 1
			if e := told(t, all); e != api.ErrForm {
				t.Errorf("byte %d of the great end is another: %d", at, e)
			}
		}
		for _, at := range []int{20, 21} {
			all := written(x)
			all.end[at] = 1
			if e := told(t, all); e != api.ErrForm {
				t.Errorf("byte %d of the end is another: %d", at, e)
			}
		}
	}
}

// bad are ways to make one of the three wrong, with the error of each, in the order of the errors.
var bad = []struct {
	e    api.Errno
	turn func(b []byte) []byte
}{
	{api.ErrSign, func(b []byte) []byte { return nil }},
	{api.ErrSign, func(b []byte) []byte { return []byte{} }},
	{api.ErrSign, func(b []byte) []byte { return b[:3] }},
	{api.ErrSign, func(b []byte) []byte { return append([]byte{0}, b...) }},
	{api.ErrSign, func(b []byte) []byte { return append(b[:3:3], 0) }},
	{api.ErrSign, func(b []byte) []byte { return make([]byte, len(b)) }},
	{api.ErrSign, func(b []byte) []byte { return append([]byte("PK\x01\x02"), b...) }},
	{api.ErrShort, func(b []byte) []byte { return b[:4] }},
	{api.ErrShort, func(b []byte) []byte { return b[: len(b)-1 : len(b)-1] }},
	{api.ErrMore, func(b []byte) []byte { return append(b, 0) }},
	{api.ErrMore, func(b []byte) []byte { return append(b, make([]byte, 1000)...) }},
	{api.OK, func(b []byte) []byte { return b }},
}

func TestErrorsInOrder(t *testing.T) { // P20.1, P1
	for _, x := range some {
		for _, f := range bad {
			for _, g := range bad {
				for _, h := range bad {
					for _, form := range []api.Errno{api.OK, api.ErrForm} {
						all := written(x)
						if form != api.OK {
							all.great[12]++
						}
						all = three{f.turn(all.great), g.turn(all.locator), h.turn(all.end)}
						want := form
						for _, e := range []api.Errno{h.e, g.e, f.e} {
							if e != api.OK {
								want = e
							}
						}
						if e := told(t, all); e != want {
							t.Errorf("%x: %d, not %d", all, e, want)
						}
					}
				}
			}
		}
	}
}

func TestCutOff(t *testing.T) { // P20.1
	whole := written(little)
	for i, b := range [][]byte{whole.great, whole.locator, whole.end} {
		for n := range len(b) + 30 {
			cut := append(slices.Clone(b), make([]byte, 30)...)[:n]
			all := [3][]byte{whole.great, whole.locator, whole.end}
			all[i] = cut
			want := api.OK
			switch {
			case n < 4:
				want = api.ErrSign
			case n < len(b):
				want = api.ErrShort
			case n > len(b):
				want = api.ErrMore
			}
			if e := told(t, three{all[0], all[1], all[2]}); e != want {
				t.Errorf("%d bytes of part %d: %d", n, i, e)
			}
		}
	}
}

func TestPartsInOtherPlaces(t *testing.T) { // P20.1
	for _, x := range some {
		all := written(x)
		parts := [][]byte{all.great, all.locator, all.end}
		for i, a := range parts {
			for j, b := range parts {
				for k, c := range parts {
					want := api.ErrSign
					if i == 0 && j == 1 && k == 2 {
						want = api.OK
					}
					if e := told(t, three{a, b, c}); e != want {
						t.Errorf("%d, %d, %d: %d", i, j, k, e)
					}
				}
			}
		}
	}
}

// made is a tail.
func made(r *rand.Rand) tail.Tail {
	var t tail.Tail
	for _, f := range fields {
		f.put(&t, r.Uint64()>>r.IntN(64))
	}
	return t
}

func TestMadeTails(t *testing.T) { // P20.1, P20.2
	r := source()
	for range 100000 {
		likewise(t, made(r))
	}
}

func TestMadeBytes(t *testing.T) { // P20.1, P20.2
	r := source()
	for range 100000 {
		all := written(made(r))
		for _, b := range [][]byte{all.great, all.locator, all.end} {
			for range r.IntN(3) {
				b[r.IntN(len(b))] = []byte{0, 1, 44, 45, 255, byte(r.IntN(256))}[r.IntN(6)]
			}
		}
		told(t, all)
	}
}

func TestWhatIsHandedInIsNotTurned(t *testing.T) { // P2
	for _, x := range some {
		all := written(x)
		rooms := [][]byte{append(all.great, 1, 2, 3), append(all.locator, 1, 2, 3), append(all.end, 1, 2, 3)}
		var was [][]byte
		for _, room := range rooms {
			was = append(was, slices.Clone(room))
		}
		got, _ := tail.Parse(rooms[0][:56], rooms[1][:20], rooms[2][:22])
		for i, room := range rooms {
			if !bytes.Equal(room, was[i]) {
				t.Errorf("%x", room)
			}
			clear(room)
		}
		if got != x {
			t.Errorf("what was handed in is kept: %+v", got)
		}
	}
}

func TestAnswersAreNew(t *testing.T) { // Rules
	for _, x := range some {
		for _, of := range []func(tail.Tail) []byte{tail.Great, tail.Locator, tail.End} {
			a, b := of(x), of(x)
			clear(a[:cap(a)])
			if c := of(x); !bytes.Equal(b, c) {
				t.Errorf("%x, %x", b, c)
			}
		}
		again(t, x, written(x))
	}
}

// memory is how many bytes of it a call takes.
func memory(call func()) uint64 {
	var before, after runtime.MemStats
	runtime.ReadMemStats(&before)
	call()
	runtime.ReadMemStats(&after)
	return after.TotalAlloc - before.TotalAlloc
}

func TestLongRowsAreNotCopied(t *testing.T) { // section 'Promises': what is too long may be very long
	all := written(little)
	long := func(b []byte) []byte { return append(b, make([]byte, 1<<24)...) }
	a, b, c := long(all.great), long(all.locator), long(all.end)
	if n := memory(func() {
		tail.Parse(a, b, c)
		tail.Parse(all.great, b, c)
		tail.Parse(all.great, all.locator, c)
	}); n > 1<<20 {
		t.Errorf("%d bytes of memory", n)
	}
}
