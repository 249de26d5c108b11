package tail_test

import (
	"encoding/binary"
	"math/rand/v2"
	"testing"

	"footlocker/api"
	"footlocker/tail"
)

// source tells the same numbers in each run.
func source() *rand.Rand { return rand.New(rand.NewPCG(39, 40)) }

// two and four are how the end tells a number.
func two(n uint64) uint16 {
	if n >= 65535 {
		return 65535
	}
	return uint16(n)
}

func four(n uint64) uint32 {
	if n >= 1<<32-1 {
		return 1<<32 - 1
	}
	return uint32(n)
}

// three is the great end, the locator and the end of a tail.
type three struct{ great, locator, end []byte }

// written is the three of a tail, by the chapter's words.
func written(t tail.Tail) three {
	le := binary.LittleEndian
	a := []byte("PK\x06\x06\x2C\x00\x00\x00\x00\x00\x00\x00\x2D\x00\x2D\x00")
	a = le.AppendUint32(a, t.Disk)
	a = le.AppendUint32(a, t.Start)
	a = le.AppendUint64(a, t.Here)
	a = le.AppendUint64(a, t.Count)
	a = le.AppendUint64(a, t.Size)
	a = le.AppendUint64(a, t.Offset)
	b := le.AppendUint32([]byte("PK\x06\x07"), t.Disk64)
	b = le.AppendUint64(b, t.Offset64)
	b = le.AppendUint32(b, t.Disks)
	c := le.AppendUint16([]byte("PK\x05\x06"), two(uint64(t.Disk)))
	c = le.AppendUint16(c, two(uint64(t.Start)))
	c = le.AppendUint16(c, two(t.Here))
	c = le.AppendUint16(c, two(t.Count))
	c = le.AppendUint32(c, four(t.Size))
	c = le.AppendUint32(c, four(t.Offset))
	return three{a, b, append(c, 0, 0)}
}

// lengthError is the error of bytes that should begin so, and be as many.
func lengthError(b []byte, begin string, size int) api.Errno {
	if len(b) < 4 || string(b[:4]) != begin {
		return api.ErrSign
	}
	if len(b) < size {
		return api.ErrShort
	}
	if len(b) > size {
		return api.ErrMore
	}
	return api.OK
}

// parsed is the tail of all three, by the chapter's words.
func parsed(x three) (tail.Tail, api.Errno) {
	if e := lengthError(x.great, "PK\x06\x06", 56); e != api.OK {
		return tail.Tail{}, e
	}
	if e := lengthError(x.locator, "PK\x06\x07", 20); e != api.OK {
		return tail.Tail{}, e
	}
	if e := lengthError(x.end, "PK\x05\x06", 22); e != api.OK {
		return tail.Tail{}, e
	}
	le := binary.LittleEndian
	t := tail.Tail{
		Disk: le.Uint32(x.great[16:]), Start: le.Uint32(x.great[20:]),
		Here: le.Uint64(x.great[24:]), Count: le.Uint64(x.great[32:]), Size: le.Uint64(x.great[40:]), Offset: le.Uint64(x.great[48:]),
		Disk64: le.Uint32(x.locator[4:]), Offset64: le.Uint64(x.locator[8:]), Disks: le.Uint32(x.locator[16:]),
	}
	same := le.Uint64(x.great[4:]) == 44 && le.Uint16(x.great[12:]) == 45 && le.Uint16(x.great[14:]) == 45
	same = same && le.Uint16(x.end[4:]) == two(uint64(t.Disk)) && le.Uint16(x.end[6:]) == two(uint64(t.Start))
	same = same && le.Uint16(x.end[8:]) == two(t.Here) && le.Uint16(x.end[10:]) == two(t.Count)
	same = same && le.Uint32(x.end[12:]) == four(t.Size) && le.Uint32(x.end[16:]) == four(t.Offset)
	if !same || le.Uint16(x.end[20:]) != 0 {
		return tail.Tail{}, api.ErrForm
	}
	return t, api.OK
}

// again checks that the three of a tail are these.
func again(t *testing.T, x tail.Tail, want three) {
	t.Helper()
	if a := tail.Great(x); string(a) != string(want.great) {
		t.Fatalf("%+v: the great end is %x, not %x", x, a, want.great)
	}
	if b := tail.Locator(x); string(b) != string(want.locator) {
		t.Fatalf("%+v: the locator is %x, not %x", x, b, want.locator)
	}
	if c := tail.End(x); string(c) != string(want.end) {
		t.Fatalf("%+v: the end is %x, not %x", x, c, want.end)
	}
}

// likewise checks that the three of a tail are what the chapter's words tell, and that they're parsed as it.
func likewise(t *testing.T, x tail.Tail) {
	t.Helper()
	again(t, x, written(x))
	if got, e := tail.Parse(tail.Great(x), tail.Locator(x), tail.End(x)); got != x || e != api.OK {
		t.Fatalf("%+v, %d, not %+v", got, e, x)
	}
}

// told checks that Parse answers what the chapter's words tell of three rows of bytes, and that what is parsed is written again. It tells which error it was.
func told(t *testing.T, x three) api.Errno {
	t.Helper()
	want, e := parsed(x)
	got, f := tail.Parse(x.great, x.locator, x.end)
	if got != want || f != e {
		t.Fatalf("%x: %+v, %d, not %+v, %d", x, got, f, want, e)
	}
	if e == api.OK {
		again(t, got, x)
	}
	return e
}
