package central_test

import (
	"bytes"
	"encoding/binary"
	"math"
	"math/rand/v2"
	"runtime"
	"slices"
	"strings"
	"testing"

	"footlocker/api"
	"footlocker/central"
	"footlocker/local"
)

// day is a right stamp.
var day = api.Stamp{Year: 2026, Month: 11, Day: 19, Hour: 20, Minute: 7, Second: 42}

// plain and huge are right records: one whose numbers all fit, and one of which none does.
var (
	plain = central.Record{Header: local.Header{Method: 8, Time: day, Sum: 0xCBF43926, Packed: 5, Size: 258, Name: "a/b"}, Disk: 3, Offset: 1 << 20}
	huge  = central.Record{Header: local.Header{Time: day, Sum: 1, Packed: 1<<32 + 7, Size: 1<<32 + 9, Name: "é"}, Disk: 65536 + 5, Offset: 1<<40 + 1}
)

// some are right records, of each of which other numbers don't fit.
func some() []central.Record {
	var all []central.Record
	for which := range 16 {
		c := plain
		if which&1 != 0 {
			c.Size = huge.Size
		}
		if which&2 != 0 {
			c.Packed = huge.Packed
		}
		if which&4 != 0 {
			c.Offset = huge.Offset
		}
		if which&8 != 0 {
			c.Disk = huge.Disk
		}
		all = append(all, c)
	}
	return append(all, huge)
}

// sizes and disks are those that fit, and don't.
var (
	sizes = []uint64{0, 1, 255, 256, 1<<16 - 1, 1 << 16, 1<<31 - 1, 1 << 31, over - 1, over, over + 1, over + 2, 1 << 33, 1<<63 - 1, 1 << 63, math.MaxUint64 - 1, math.MaxUint64}
	disks = []uint32{0, 1, 255, 256, 32767, 32768, 65534, 65535, 65536, 65537, 1 << 20, 1<<31 - 1, 1 << 31, math.MaxUint32 - 1, math.MaxUint32}
)

func TestTheExample(t *testing.T) { // P19.1
	c := central.Record{Header: local.Header{Time: api.Stamp{Year: 1980, Month: 1, Day: 1}, Name: "a"}}
	if n := central.Size(c); n != 47 {
		t.Errorf("%d", n)
	}
	if b, e := central.Write(c); len(b) != 47 || e != api.OK {
		t.Errorf("%x, %d", b, e)
	}
}

func TestBytesOfRecords(t *testing.T) { // P19.1
	part := plain
	part.Size, part.Disk = huge.Size, 65535
	for _, x := range []struct {
		c    central.Record
		want string
	}{
		{plain, "PK\x01\x02\x2D\x00\x14\x00\x00\x08\x08\x00\xF5\xA0\x73\x5D\x26\x39\xF4\xCB\x05\x00\x00\x00\x02\x01\x00\x00\x03\x00\x00\x00\x00\x00\x03\x00\x00\x00\x00\x00\x00\x00\x00\x00\x10\x00a/b"},
		{part, "PK\x01\x02\x2D\x00\x2D\x00\x00\x08\x08\x00\xF5\xA0\x73\x5D\x26\x39\xF4\xCB\x05\x00\x00\x00\xFF\xFF\xFF\xFF\x03\x00\x10\x00\x00\x00\xFF\xFF\x00\x00\x00\x00\x00\x00\x00\x00\x10\x00a/b\x01\x00\x0C\x00\x09\x00\x00\x00\x01\x00\x00\x00\xFF\xFF\x00\x00"},
		{huge, "PK\x01\x02\x2D\x00\x2D\x00\x00\x08\x00\x00\xF5\xA0\x73\x5D\x01\x00\x00\x00\xFF\xFF\xFF\xFF\xFF\xFF\xFF\xFF\x02\x00\x20\x00\x00\x00\xFF\xFF\x00\x00\x00\x00\x00\x00\xFF\xFF\xFF\xFFé\x01\x00\x1C\x00\x09\x00\x00\x00\x01\x00\x00\x00\x07\x00\x00\x00\x01\x00\x00\x00\x01\x00\x00\x00\x00\x01\x00\x00\x05\x00\x01\x00"},
	} {
		if b, e := central.Write(x.c); string(b) != x.want || e != api.OK {
			t.Errorf("%x, %d, not %x", b, e, x.want)
		}
		likewise(t, x.c)
	}
}

func TestAllNumbers(t *testing.T) { // P19.1, P19.2
	for _, packed := range sizes {
		for _, size := range sizes {
			for _, offset := range sizes {
				for _, disk := range disks {
					c := central.Record{Header: local.Header{Time: day, Packed: packed, Size: size, Name: "x"}, Disk: disk, Offset: offset}
					likewise(t, c)
				}
			}
		}
	}
	for _, sum := range []uint32{0, 1, 255, 1 << 8, 1 << 16, 1 << 24, 0x02014B50, 0x01020304, 1 << 31, math.MaxUint32} {
		for _, c := range some() {
			c.Sum = sum
			likewise(t, c)
		}
	}
}

func TestAllNames(t *testing.T) { // P19.1, P19.2
	for n := range 300 {
		for _, c := range some() {
			c.Name = strings.Repeat("n", n)
			likewise(t, c)
		}
	}
	for _, name := range []string{"é/日", "\U00010000", "PK\x01\x02", "a//b", "/", "..", "a\\b", "a:b", "\x00", "\xFF", "\uFFFD", "a/", "...", strings.Repeat("/", 300), strings.Repeat("é", 127), strings.Repeat("é", 128)} {
		for _, c := range some() {
			c.Name = name
			likewise(t, c)
		}
	}
}

func TestSizeOfLongNames(t *testing.T) { // P19.1
	for _, n := range []int{255, 256, 1000, 65534, 65535, 65536, 65537, 1 << 17, 1<<17 + 5} {
		for _, c := range append(some(), central.Record{Header: local.Header{Method: -1}}) {
			c.Name = strings.Repeat("n", n)
			likewise(t, c)
		}
	}
}

func TestErrorsOfWrite(t *testing.T) { // P19.1, P1
	methods := []int{0, 8, 1, 7, 9, -8, -1, 1 << 16, 1<<16 + 8, 1<<32 + 8, math.MinInt, math.MaxInt}
	times := []api.Stamp{day, {}, {Year: 1979, Month: 1, Day: 1}, {Year: 2108, Month: 1, Day: 1}, {Year: 2026, Month: 2, Day: 29}, {Year: 2026, Month: 2, Day: 3, Second: 5}, {Year: math.MinInt, Month: math.MaxInt, Day: -1}}
	for _, method := range methods {
		for _, at := range times {
			for _, name := range []string{"a", "", "a//b", strings.Repeat("n", 255), strings.Repeat("n", 256)} {
				for _, c := range []central.Record{plain, huge} {
					c.Method, c.Time, c.Name = method, at, name
					likewise(t, c)
				}
			}
		}
	}
}

func TestEachByteTurned(t *testing.T) { // P19.1, P19.2
	met := map[api.Errno]int{}
	for _, c := range some() {
		for _, more := range []string{"", "a", strings.Repeat("b", 1000), strings.Repeat("\x00", 1<<17)} {
			b := append(written(c), more...)
			for at := range central.Size(c) {
				for v := range 256 {
					was := b[at]
					b[at] = byte(v)
					met[told(t, b)]++
					b[at] = was
				}
			}
		}
	}
	for _, e := range []api.Errno{api.OK, api.ErrSign, api.ErrShort, api.ErrForm, api.ErrMethod, api.ErrTime, api.ErrName} {
		if met[e] == 0 {
			t.Errorf("%d is never met", e)
		}
	}
}

func TestCutOff(t *testing.T) { // P19.1
	for _, c := range some() {
		b := written(c)
		for n := range len(b) {
			want := api.ErrShort
			if n < 4 {
				want = api.ErrSign
			}
			if e := told(t, b[:n:n]); e != want {
				t.Errorf("%d bytes: %d", n, e)
			}
		}
	}
	told(t, nil)
	told(t, []byte{})
	for _, b := range []string{"PK\x03\x04" + strings.Repeat("x", 60), "PK\x01\x03", "\x02\x01KP" + strings.Repeat("x", 60)} {
		if e := told(t, []byte(b)); e != api.ErrSign {
			t.Errorf("%x: %d", b, e)
		}
	}
}

// put lays a number of two bytes over others.
func put(b []byte, at int, n uint16) []byte {
	b = slices.Clone(b)
	binary.LittleEndian.PutUint16(b[at:], n)
	return b
}

// put4 lays a number of four bytes over others.
func put4(b []byte, at int, n uint32) []byte {
	b = slices.Clone(b)
	binary.LittleEndian.PutUint32(b[at:], n)
	return b
}

// put8 lays a number of eight bytes over others.
func put8(b []byte, at int, n uint64) []byte {
	b = slices.Clone(b)
	binary.LittleEndian.PutUint64(b[at:], n)
	return b
}

func TestNumbersThatDoNotAgree(t *testing.T) { // P19.1
	few, many := append(written(plain), make([]byte, 100)...), append(written(huge), make([]byte, 100)...)
	for i, b := range [][]byte{
		put(few, 4, 20), put(many, 4, 20), put(few, 4, 0), put(few, 4, 45<<8), put(many, 4, 46), // what wrote it
		put(few, 6, 45), put(many, 6, 20), put(few, 6, 0), put(few, 6, 20<<8), put(many, 6, 46), // the version
		put(few, 8, 0), put(few, 8, 8), put(few, 8, 2049), put(many, 8, 0), // what is always 2048
		put(few, 32, 1), put(few, 32, 256), put(many, 32, 1), put(few, 36, 1), put(few, 36, 256), put(many, 36, 1), // what is always 0
		put4(few, 38, 1), put4(few, 38, 1<<8), put4(few, 38, 1<<16), put4(few, 38, 1<<24), put4(many, 38, 1),
		put4(few, 20, over), put4(few, 24, over), put4(few, 42, over), put(few, 34, overDisk), put(put4(few, 42, over), 6, 45), // what stands nowhere
		put4(many, 20, 7), put4(many, 24, 9), put4(many, 42, 1), put(many, 34, 5), put4(many, 20, over-1), put(many, 34, overDisk-1), // what is told ahead of the name, and behind it
		put(few, 30, 1), put(few, 30, 4), put(few, 30, 8), put(few, 30, 32), put(few, 30, 100), // how many stand behind the name
		put(many, 30, 0), put(many, 30, 1), put(many, 30, 4), put(many, 30, 28), put(many, 30, 31), put(many, 30, 33), put(many, 30, 40),
		put(many, 48, 0), put(many, 48, 2), put(many, 48, 1<<8), put(many, 50, 27), put(many, 50, 29), put(many, 50, 0), put(many, 50, 32), // what these are
		put8(many, 52, over-1), put8(many, 60, over-1), put8(many, 68, over-1), put4(many, 76, overDisk-1), put8(many, 52, 0), put8(many, 60, 0), put8(many, 68, 0), put4(many, 76, 0), // what fits
		put(many, 28, 1), put(many, 28, 3), put(many, 28, 0), // then other bytes stand behind the name
	} {
		if e := told(t, b); e != api.ErrForm {
			t.Errorf("case %d: %d", i, e)
		}
	}
	for i, b := range [][]byte{put8(many, 52, over), put8(many, 60, over), put8(many, 68, over), put4(many, 76, overDisk)} {
		if e := told(t, b); e != api.OK {
			t.Errorf("case %d, the least that doesn't fit: %d", i, e)
		}
	}
}

func TestOtherBytesBehindTheName(t *testing.T) { // P19.1
	tag := []byte{1, 0, 0, 0}
	for _, c := range some() {
		b, own := written(c), len(behind(c))
		for _, more := range [][]byte{nil, tag, make([]byte, own), make([]byte, 1), append(behind(c), 0), append(behind(c), tag...), append(behind(c), behind(c)...), append(slices.Clone(tag), behind(c)...), behind(huge), behind(central.Record{Disk: math.MaxUint32})} {
			x := append(b[:len(b)-own:len(b)-own], more...)
			want := api.ErrForm
			if string(x[len(b)-own:]) == string(b[len(b)-own:]) {
				want = api.OK
			}
			if c.Disk >= overDisk && own == 8 && len(more) == 8 && more[2] == 4 {
				want = api.OK // another disk, of which that alone doesn't fit
			}
			if own == 32 && len(more) == 32 && more[2] == 28 {
				want = api.OK // other numbers, of which none fits
			}
			if e := told(t, put(x, 30, uint16(len(more)))); e != want {
				t.Errorf("%x: %d, not %d", x, e, want)
			}
		}
	}
}

func TestNumbersBehindTheName(t *testing.T) { // P19.1, P19.2
	b := written(huge)
	for _, size := range sizes {
		for _, packed := range sizes {
			for _, offset := range sizes {
				for _, disk := range disks {
					c := put4(put8(put8(put8(b, 52, size), 60, packed), 68, offset), 76, disk)
					want := api.ErrForm
					if size >= over && packed >= over && offset >= over && disk >= overDisk {
						want = api.OK
					}
					if e := told(t, c); e != want {
						t.Fatalf("%d, %d, %d, %d: %d", size, packed, offset, disk, e)
					}
				}
			}
		}
	}
}

// faults are ways to make a record's bytes wrong, one for each error, in the order of the errors.
var faults = []struct {
	e    api.Errno
	turn func(b []byte) []byte
}{
	{api.ErrSign, func(b []byte) []byte { return put(b, 2, 0x0403) }},
	{api.ErrShort, func(b []byte) []byte { return put(b, 28, 60000) }},
	{api.ErrForm, func(b []byte) []byte { return put(b, 8, 1) }},
	{api.ErrMethod, func(b []byte) []byte { return put(b, 10, 9) }},
	{api.ErrTime, func(b []byte) []byte { return put(b, 14, 0) }},
	{api.ErrName, func(b []byte) []byte { b = slices.Clone(b); b[46] = 0; return b }},
}

func TestErrorsInOrder(t *testing.T) { // P19.1, P1
	for _, c := range some() {
		for which := range 1 << len(faults) {
			b, want := written(c), api.OK
			for i, f := range slices.Backward(faults) {
				if which>>i&1 == 1 {
					b, want = f.turn(b), f.e
				}
			}
			if e := told(t, b); e != want {
				t.Errorf("%b: %d, not %d", which, e, want)
			}
		}
	}
}

func TestNamesThatAreRead(t *testing.T) { // P19.1
	for _, n := range []int{0, 1, 254, 255, 256, 300, 65534, 65535} {
		for _, c := range some() {
			c.Name = strings.Repeat("n", n)
			want := api.OK
			if n < 1 || n > 255 {
				want = api.ErrName
			}
			b := written(c)
			if e := told(t, b); e != want {
				t.Errorf("%d bytes: %d", n, e)
			}
			if e := told(t, b[:len(b)-1]); e != api.ErrShort {
				t.Errorf("%d bytes, and one is missing: %d", n, e)
			}
		}
	}
	far := put(put(append(written(plain), make([]byte, 1<<17)...), 28, 65535), 30, 65535)
	if e := told(t, far[:46+2*65535]); e != api.ErrForm {
		t.Errorf("as long as it can be told: %d", e)
	}
	if e := told(t, far[:46+2*65535-1]); e != api.ErrShort {
		t.Errorf("as long as it can be told, but one: %d", e)
	}
}

func TestAllNumbersOfTwoBytes(t *testing.T) { // P19.1, P19.2
	for n := range 1 << 16 {
		for _, c := range []central.Record{plain, huge} {
			b := written(c)
			for _, at := range []int{6, 10, 12, 14, 30, 34} {
				told(t, put(b, at, uint16(n)))
			}
		}
	}
}

// made is a record, mostly a right one.
func made(r *rand.Rand) central.Record {
	c := central.Record{Disk: r.Uint32() >> r.IntN(32), Offset: r.Uint64() >> r.IntN(64)}
	c.Method, c.Time, c.Sum = 8*r.IntN(2), day, r.Uint32()
	c.Packed, c.Size = r.Uint64()>>r.IntN(64), r.Uint64()>>r.IntN(64)
	c.Time.Year, c.Time.Month, c.Time.Day, c.Time.Second = 1980+r.IntN(128), 1+r.IntN(12), 1+r.IntN(30), r.IntN(59)&^1
	for range 1 + r.IntN(12) {
		c.Name += string(rune(r.IntN(0x300)))
	}
	return c
}

func TestMadeRecords(t *testing.T) { // P19.1, P19.2
	r := source()
	for range 100000 {
		likewise(t, made(r))
	}
}

func TestMadeBytes(t *testing.T) { // P19.1, P19.2
	r := source()
	for range 200000 {
		b := written(made(r))
		for range r.IntN(4) {
			b[r.IntN(len(b))] = []byte{0, 1, 20, 45, 255, byte(r.IntN(256))}[r.IntN(6)]
		}
		for range r.IntN(40) {
			b = append(b, byte(r.IntN(256)))
		}
		told(t, b[:len(b)-r.IntN(2)*r.IntN(len(b))])
	}
}

func TestWhatIsHandedInIsNotTurned(t *testing.T) { // P2
	for _, c := range some() {
		room := append(written(c), 1, 2, 3)
		was := slices.Clone(room)
		got, _, _ := central.Parse(room[:len(room)-3])
		if !bytes.Equal(room, was) {
			t.Errorf("%x", room)
		}
		clear(room)
		if got != c {
			t.Errorf("what was handed in is kept: %+v", got)
		}
	}
}

func TestAnswersAreNew(t *testing.T) { // Rules
	for _, c := range some() {
		a, _ := central.Write(c)
		b, _ := central.Write(c)
		clear(a[:cap(a)])
		if x, _ := central.Write(c); !bytes.Equal(b, written(c)) || !bytes.Equal(x, b) {
			t.Errorf("%x, %x", b, x)
		}
	}
}

// memory is how many bytes of it a call takes.
func memory(call func()) uint64 {
	var before, after runtime.MemStats
	runtime.ReadMemStats(&before)
	call()
	runtime.ReadMemStats(&after)
	return after.TotalAlloc - before.TotalAlloc
}

func TestLongRowsAreNotCopied(t *testing.T) { // section 'Promises': a volume may begin with many records, and each is parsed from what is left
	b := append(written(plain), make([]byte, 1<<24)...)
	if n := memory(func() { central.Parse(b) }); n > 1<<20 {
		t.Errorf("%d bytes of memory for a record of %d", n, central.Size(plain))
	}
}
