package local_test

import (
	"encoding/binary"
	"math/rand/v2"
	"strings"
	"testing"

	"footlocker/api"
	"footlocker/local"
	"footlocker/name"
	"footlocker/stamp"
)

// source tells the same numbers in each run.
func source() *rand.Rand { return rand.New(rand.NewPCG(35, 36)) }

const over = 1<<32 - 1 // from here on a number is told behind the name

// isRight is the error of a header, by the chapter's words.
func isRight(h local.Header) api.Errno {
	switch {
	case h.Method != 0 && h.Method != 8:
		return api.ErrMethod
	case stamp.Check(h.Time) != api.OK:
		return api.ErrTime
	case name.Check(h.Name) != api.OK:
		return api.ErrName
	}
	return api.OK
}

// written is a right header's bytes, by the chapter's words.
func written(h local.Header) []byte {
	date, second, _ := stamp.Pack(h.Time)
	le := binary.LittleEndian
	great := h.Packed >= over || h.Size >= over
	b := []byte{0x50, 0x4B, 3, 4, 20, 0, 0, 8}
	if great {
		b[4] = 45
	}
	b = le.AppendUint16(b, uint16(h.Method))
	b = le.AppendUint16(b, second)
	b = le.AppendUint16(b, date)
	b = le.AppendUint32(b, h.Sum)
	if great {
		b = append(b, 255, 255, 255, 255, 255, 255, 255, 255)
	} else {
		b = le.AppendUint32(b, uint32(h.Packed))
		b = le.AppendUint32(b, uint32(h.Size))
	}
	b = le.AppendUint16(b, uint16(len(h.Name)))
	if !great {
		return append(append(b, 0, 0), h.Name...)
	}
	b = append(append(b, 20, 0), h.Name...)
	b = append(b, 1, 0, 16, 0)
	b = le.AppendUint64(b, h.Size)
	return le.AppendUint64(b, h.Packed)
}

// hasForm tells whether each number of a header's bytes, of which there are as many as they tell, is one that it may be.
func hasForm(b []byte) bool {
	le := binary.LittleEndian
	version, flags, behind := le.Uint16(b[4:]), le.Uint16(b[6:]), le.Uint16(b[28:])
	packed, size := le.Uint32(b[18:]), le.Uint32(b[22:])
	switch {
	case flags != 2048:
		return false
	case behind == 0:
		return version == 20 && packed != over && size != over
	case behind != 20 || version != 45 || packed != over || size != over:
		return false
	}
	last := b[len(b)-20:]
	needs := le.Uint64(last[4:]) >= over || le.Uint64(last[12:]) >= over
	return le.Uint16(last) == 1 && le.Uint16(last[2:]) == 16 && needs
}

// parsed is the header at the beginning of bytes, by the chapter's words.
func parsed(b []byte) (local.Header, int, api.Errno) {
	none, le := local.Header{}, binary.LittleEndian
	if len(b) < 4 || string(b[:4]) != "PK\x03\x04" {
		return none, 0, api.ErrSign
	}
	if len(b) < 30 || len(b) < 30+int(le.Uint16(b[26:]))+int(le.Uint16(b[28:])) {
		return none, 0, api.ErrShort
	}
	named, behind := int(le.Uint16(b[26:])), int(le.Uint16(b[28:]))
	b = b[:30+named+behind]
	if !hasForm(b) {
		return none, 0, api.ErrForm
	}
	h := local.Header{Method: int(le.Uint16(b[8:])), Sum: le.Uint32(b[14:]), Packed: uint64(le.Uint32(b[18:])), Size: uint64(le.Uint32(b[22:])), Name: string(b[30 : 30+named])}
	if behind == 20 {
		h.Size, h.Packed = le.Uint64(b[34+named:]), le.Uint64(b[42+named:])
	}
	h.Time, _ = stamp.Unpack(le.Uint16(b[12:]), le.Uint16(b[10:]))
	if e := isRight(h); e != api.OK {
		return none, 0, e
	}
	return h, len(b), api.OK
}

// likewise checks that Write and Size answer what the chapter's words tell of a header, and Parse the header again, whatever stands behind.
func likewise(t *testing.T, h local.Header) {
	t.Helper()
	size := 30 + min(len(h.Name), 65535)
	if h.Packed >= over || h.Size >= over {
		size += 20
	}
	if got := local.Size(h); got != size {
		t.Fatalf("%+v: %d bytes, not %d", h, got, size)
	}
	b, e := local.Write(h)
	if want := isRight(h); e != want || want != api.OK {
		if e != want || len(b) != 0 {
			t.Fatalf("%+v: %d bytes, %d, not %d", h, len(b), e, want)
		}
		return
	}
	if string(b) != string(written(h)) || len(b) != size {
		t.Fatalf("%+v: %x, not %x", h, b, written(h))
	}
	for _, behind := range []string{"", "\x00", "\x01\x00\x10\x00", "PK\x03\x04", string(b), strings.Repeat("\xFF", 40)} {
		if got, n, e := local.Parse(append(b[:len(b):len(b)], behind...)); got != h || n != size || e != api.OK {
			t.Fatalf("%x and %x: %+v, %d, %d, not %+v", b, behind, got, n, e, h)
		}
	}
}

// told checks that Parse answers what the chapter's words tell of bytes, and that what is parsed is written again. It tells which error it was.
func told(t *testing.T, b []byte) api.Errno {
	t.Helper()
	h, n, e := parsed(b)
	got, m, f := local.Parse(b)
	if got != h || m != n || f != e {
		t.Fatalf("%x: %+v, %d, %d, not %+v, %d, %d", b, got, m, f, h, n, e)
	}
	if e == api.OK {
		if back, e := local.Write(h); string(back) != string(b[:n]) || e != api.OK {
			t.Fatalf("%x: written again, it is %x, %d", b[:n], back, e)
		}
	}
	return e
}
