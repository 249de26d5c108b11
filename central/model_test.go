package central_test

import (
	"encoding/binary"
	"math/rand/v2"
	"strings"
	"testing"

	"footlocker/api"
	"footlocker/central"
	"footlocker/name"
	"footlocker/stamp"
)

// source tells the same numbers in each run.
func source() *rand.Rand { return rand.New(rand.NewPCG(37, 38)) }

const (
	over     = 1<<32 - 1 // from here on a number is told behind the name
	overDisk = 65535     // and such a disk
)

// isRight is the error of a record, by the chapter's words.
func isRight(c central.Record) api.Errno {
	switch {
	case c.Method != 0 && c.Method != 8:
		return api.ErrMethod
	case stamp.Check(c.Time) != api.OK:
		return api.ErrTime
	case name.Check(c.Name) != api.OK:
		return api.ErrName
	}
	return api.OK
}

// alone is how a number is told ahead of the name.
func alone(n uint64) uint32 {
	if n >= over {
		return over
	}
	return uint32(n)
}

// behind is what stands behind a record's name, by the chapter's words.
func behind(c central.Record) []byte {
	le, b := binary.LittleEndian, []byte(nil)
	if c.Size >= over {
		b = le.AppendUint64(b, c.Size)
	}
	if c.Packed >= over {
		b = le.AppendUint64(b, c.Packed)
	}
	if c.Offset >= over {
		b = le.AppendUint64(b, c.Offset)
	}
	if c.Disk >= overDisk {
		b = le.AppendUint32(b, c.Disk)
	}
	if len(b) == 0 {
		return nil
	}
	return append([]byte{1, 0, byte(len(b)), 0}, b...)
}

// written is a right record's bytes, by the chapter's words.
func written(c central.Record) []byte {
	le, more := binary.LittleEndian, behind(c)
	date, second, _ := stamp.Pack(c.Time)
	b := []byte{0x50, 0x4B, 1, 2, 45, 0, 20, 0, 0, 8}
	if more != nil {
		b[6] = 45
	}
	b = le.AppendUint16(b, uint16(c.Method))
	b = le.AppendUint16(b, second)
	b = le.AppendUint16(b, date)
	b = le.AppendUint32(b, c.Sum)
	b = le.AppendUint32(b, alone(c.Packed))
	b = le.AppendUint32(b, alone(c.Size))
	b = le.AppendUint16(b, uint16(len(c.Name)))
	b = append(b, byte(len(more)), 0, 0, 0)
	if c.Disk >= overDisk {
		b = append(b, 255, 255)
	} else {
		b = le.AppendUint16(b, uint16(c.Disk))
	}
	b = append(b, 0, 0, 0, 0, 0, 0)
	b = le.AppendUint32(b, alone(c.Offset))
	b = append(b, c.Name...)
	return append(b, more...)
}

// taken is the number that begins bytes, and those behind it.
func taken(b []byte, size int) (uint64, []byte) {
	whole := append(b[:size:size], 0, 0, 0, 0)
	return binary.LittleEndian.Uint64(whole), b[size:]
}

// great puts those numbers of a record that are told behind its name in their places. It tells whether just these are told there, and need be.
func great(c *central.Record, more []byte) bool {
	count := 0
	for _, n := range []uint64{c.Size, c.Packed, c.Offset} {
		if n == over {
			count += 8
		}
	}
	if c.Disk == overDisk {
		count += 4
	}
	if count == 0 || len(more) == 0 {
		return count == 0 && len(more) == 0
	}
	if len(more) != 4+count || string(more[:4]) != string([]byte{1, 0, byte(count), 0}) {
		return false
	}
	more = more[4:]
	fits := false
	for _, n := range []*uint64{&c.Size, &c.Packed, &c.Offset} {
		if *n == over {
			*n, more = taken(more, 8)
			fits = fits || *n < over
		}
	}
	if c.Disk == overDisk {
		disk, _ := taken(more, 4)
		c.Disk = uint32(disk)
		fits = fits || disk < overDisk
	}
	return !fits
}

// hasForm tells whether each of those numbers of a record's bytes is right that may be but one.
func hasForm(b []byte) bool {
	le, version := binary.LittleEndian, uint16(20)
	if le.Uint16(b[30:]) != 0 {
		version = 45
	}
	return le.Uint16(b[4:]) == 45 && le.Uint16(b[6:]) == version && le.Uint16(b[8:]) == 2048 && le.Uint16(b[32:]) == 0 && le.Uint16(b[36:]) == 0 && le.Uint32(b[38:]) == 0
}

// parsed is the record at the beginning of bytes, by the chapter's words.
func parsed(b []byte) (central.Record, int, api.Errno) {
	none, le := central.Record{}, binary.LittleEndian
	if len(b) < 4 || string(b[:4]) != "PK\x01\x02" {
		return none, 0, api.ErrSign
	}
	if len(b) < 46 || len(b) < 46+int(le.Uint16(b[28:]))+int(le.Uint16(b[30:])) {
		return none, 0, api.ErrShort
	}
	named := int(le.Uint16(b[28:]))
	b = b[:46+named+int(le.Uint16(b[30:]))]
	c := central.Record{Disk: uint32(le.Uint16(b[34:])), Offset: uint64(le.Uint32(b[42:]))}
	c.Method, c.Sum, c.Name = int(le.Uint16(b[10:])), le.Uint32(b[16:]), string(b[46:46+named])
	c.Packed, c.Size = uint64(le.Uint32(b[20:])), uint64(le.Uint32(b[24:]))
	if !hasForm(b) || !great(&c, b[46+named:]) {
		return none, 0, api.ErrForm
	}
	c.Time, _ = stamp.Unpack(le.Uint16(b[14:]), le.Uint16(b[12:]))
	if e := isRight(c); e != api.OK {
		return none, 0, e
	}
	return c, len(b), api.OK
}

// likewise checks that Write and Size answer what the chapter's words tell of a record, and Parse the record again, whatever stands behind.
func likewise(t *testing.T, c central.Record) {
	t.Helper()
	size := 46 + min(len(c.Name), 65535) + len(behind(c))
	if got := central.Size(c); got != size {
		t.Fatalf("%+v: %d bytes, not %d", c, got, size)
	}
	b, e := central.Write(c)
	if want := isRight(c); e != want || want != api.OK {
		if e != want || len(b) != 0 {
			t.Fatalf("%+v: %d bytes, %d, not %d", c, len(b), e, want)
		}
		return
	}
	if string(b) != string(written(c)) || len(b) != size {
		t.Fatalf("%+v: %x, not %x", c, b, written(c))
	}
	for _, more := range []string{"", "\x00", "\x01\x00\x08\x00", "PK\x01\x02", string(b), strings.Repeat("\xFF", 40)} {
		if got, n, e := central.Parse(append(b[:len(b):len(b)], more...)); got != c || n != size || e != api.OK {
			t.Fatalf("%x and %x: %+v, %d, %d, not %+v", b, more, got, n, e, c)
		}
	}
}

// told checks that Parse answers what the chapter's words tell of bytes, and that what is parsed is written again. It tells which error it was.
func told(t *testing.T, b []byte) api.Errno {
	t.Helper()
	c, n, e := parsed(b)
	got, m, f := central.Parse(b)
	if got != c || m != n || f != e {
		t.Fatalf("%x: %+v, %d, %d, not %+v, %d, %d", b, got, m, f, c, n, e)
	}
	if e == api.OK {
		if back, e := central.Write(c); string(back) != string(b[:n]) || e != api.OK {
			t.Fatalf("%x: written again, it is %x, %d", b[:n], back, e)
		}
	}
	return e
}
