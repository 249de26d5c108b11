package extract_test

import (
	"bytes"
	"hash/crc32"
	"math"
	"slices"
	"strconv"
	"strings"
	"testing"
	"time"

	"footlocker/api"
	"footlocker/central"
	"footlocker/extract"
	"footlocker/local"
)

// most is more than all files of a small row have.
const most = 1 << 20

// two are a file that is laid as it is, and one that is packed.
func two() []file {
	return []file{
		{api.Entry{Name: "a", Time: api.Stamp{Year: 1980, Month: 1, Day: 1}, Data: []byte("hello")}, 0},
		{api.Entry{Name: "b/c", Time: day, Data: []byte("PK\x03\x04, the cat, the cat, the cat")}, 8},
	}
}

// one is a row of one volume.
func one(b ...string) [][]byte { return [][]byte{[]byte(strings.Join(b, ""))} }

// header is a header's bytes.
func header(t *testing.T, h local.Header) string {
	t.Helper()
	b, e := local.Write(h)
	if e != api.OK {
		t.Fatalf("%+v: %d", h, e)
	}
	return string(b)
}

func TestTheExample(t *testing.T) { // P27.1
	row := whole(nil, never).row
	want := sign +
		"PK\x06\x06\x2C\x00\x00\x00\x00\x00\x00\x00\x2D\x00\x2D\x00" + strings.Repeat("\x00", 32) + "\x04\x00\x00\x00\x00\x00\x00\x00" +
		"PK\x06\x07" + strings.Repeat("\x00", 4) + "\x04\x00\x00\x00\x00\x00\x00\x00" + "\x01\x00\x00\x00" +
		"PK\x05\x06" + strings.Repeat("\x00", 12) + "\x04\x00\x00\x00" + "\x00\x00"
	if len(want) != 102 || len(row) != 1 || string(row[0]) != want {
		t.Fatalf("%q, not %q", row, want)
	}
	if xs, e := extract.Parse(row, 0); len(xs) != 0 || e != api.OK {
		t.Errorf("%v, %d", xs, e)
	}
	if parts, at, e := extract.Walk(row); len(parts) != 0 || at != 4 || e != api.OK {
		t.Errorf("%v, %d, %d", parts, at, e)
	}
	if b, ok := extract.Tail(row, nil, 4); string(b) != want[4:] || !ok {
		t.Errorf("%q, %v", b, ok)
	}
}

func TestLaidByHand(t *testing.T) { // P27.1: every right row is told, however its volumes end
	r := source()
	for i := range 1500 {
		xs := someFiles(r, r.IntN(5))
		ends := never
		if i%10 > 0 {
			ends = sometimes(r, 1+r.IntN(60))
		}
		h := whole(xs, ends)
		if walk, parse := held(t, h.row, most); walk != api.OK || parse != api.OK {
			t.Fatalf("%q: %d, %d", h.row, walk, parse)
		}
		parts, at, _ := extract.Walk(h.row)
		if !slices.EqualFunc(parts, h.parts, samePart) || at != h.at {
			t.Fatalf("Walk, %q: %+v, %d, not %+v, %d", h.row, parts, at, h.parts, h.at)
		}
		if got, _ := extract.Parse(h.row, most); !slices.EqualFunc(got, entries(xs), sameEntry) {
			t.Fatalf("Parse, %q: %+v, not %+v", h.row, got, xs)
		}
		if b, ok := extract.Tail(h.row, parts, at); string(b) != string(slices.Concat(h.row...)[at:]) || !ok {
			t.Fatalf("Tail, %q: %q, %v", h.row, b, ok)
		}
	}
}

func TestEachByteTurned(t *testing.T) { // P27.1, P27.2
	r := source()
	for _, ends := range []func() int{never, sometimes(r, 30), sometimes(r, 5)} {
		h := whole(two(), ends)
		for disk, b := range h.row {
			for at := range b {
				for _, turn := range []byte{1, 0x10, 0x80, 0xFF} {
					b[at] ^= turn
					if _, parse := held(t, h.row, most); parse == api.OK && !isData(h, disk, at) {
						t.Fatalf("disk %d, at %d, turned by %d, is still one", disk, at, turn)
					}
					b[at] ^= turn
				}
			}
		}
	}
}

// isData tells whether a place is one of a packed file's bytes: there other bits may mean the same.
func isData(h *hand, disk, at int) bool {
	i := len(slices.Concat(h.row[:disk]...)) + at
	return slices.ContainsFunc(h.parts, func(p extract.Part) bool {
		first := p.At + local.Size(p.Head)
		return p.Head.Method == 8 && i >= first && i < first+len(p.Data)
	})
}

func TestByteMoreOrFewer(t *testing.T) { // P27.2
	r := source()
	for _, ends := range []func() int{never, sometimes(r, 40), sometimes(r, 5)} {
		for _, xs := range [][]file{nil, two()[:1], two()} {
			row := whole(xs, ends).row
			for disk, b := range row {
				for at := range len(b) + 1 {
					for _, v := range []byte{0, 'P', 0xFF} {
						row[disk] = slices.Insert(slices.Clone(b), at, v)
						if _, e := held(t, row, most); e == api.OK {
							t.Fatalf("%q, with %d at %d of disk %d, is still one", row, v, at, disk)
						}
					}
					if at < len(b) {
						row[disk] = slices.Delete(slices.Clone(b), at, at+1)
						if _, e := held(t, row, most); e == api.OK {
							t.Fatalf("%q, without %d of disk %d, is still one", row, at, disk)
						}
					}
				}
				row[disk] = b
			}
		}
	}
}

func TestCutAnywhere(t *testing.T) { // P27.1, P27.2
	row := whole(two(), never).row
	for n := range row[0] {
		if _, e := held(t, [][]byte{row[0][:n]}, most); e == api.OK {
			t.Fatalf("%d bytes are one", n)
		}
		if _, e := held(t, [][]byte{row[0][n:]}, most); (e == api.OK) != (n == 0) {
			t.Fatalf("from %d on: %d", n, e)
		}
	}
}

// mended is a row whose directory is that of its volumes, if there are files, and as many bytes must follow them as do.
func mended(row [][]byte) [][]byte {
	parts, at, e := walked(row)
	b, ok := tailed(row, parts, at)
	if e != api.OK || !ok || at+len(b) != len(cells(row)) {
		return row
	}
	for i, c := range cells(row)[at:] {
		row[c.Disk][c.At] = b[i]
	}
	return row
}

// fixedPieces is where pieces of a row of one volume begin that must stand in one, and how many bytes they have.
func fixedPieces(h *hand) map[int]int {
	all := map[int]int{0: 4}
	at := h.at
	for _, p := range h.parts {
		all[p.At] = local.Size(p.Head)
		all[at] = 46 + len(p.Head.Name)
		at += 46 + len(p.Head.Name)
	}
	all[at], all[at+56], all[at+76] = 56, 20, 22
	return all
}

func TestEachSplit(t *testing.T) { // P27.1, P27.2: whatever volumes there are, pieces stand in one, files' bytes needn't
	for _, xs := range [][]file{nil, two()[:1], two()} {
		h := whole(xs, never)
		b := h.row[0]
		for at := range len(b) + 1 {
			row := mended(copied([][]byte{b[:at], b[at:]}))
			isWhole := true
			for first, size := range fixedPieces(h) {
				isWhole = isWhole && (at <= first || at >= first+size)
			}
			if _, e := held(t, row, most); (e == api.OK) != isWhole {
				t.Fatalf("split at %d: %d", at, e)
			}
			held(t, [][]byte{b[:at], b[at:]}, most) // its directory tells of one volume
			for next := at; next < len(b); next += 7 {
				held(t, mended(copied([][]byte{b[:at], nil, b[at:next], b[next:]})), most)
			}
		}
	}
}

func TestEmptyVolumes(t *testing.T) { // P27.1: they are passed over, but count
	h := whole(two(), never)
	b := h.row[0]
	for count := range 4 {
		none := make([][]byte, count)
		for at := range len(b) + 1 {
			row := slices.Concat([][]byte{b[:at]}, none, [][]byte{b[at:]})
			parts, n, e := extract.Walk(row)
			whole, m, f := extract.Walk([][]byte{b[:at], b[at:]})
			if !slices.EqualFunc(parts, whole, samePart) || n != m || e != f {
				t.Fatalf("%d empty ones at %d: %+v, %d, %d", count, at, parts, n, e)
			}
			held(t, row, most)
			held(t, mended(copied(row)), most)
		}
		for _, row := range [][][]byte{slices.Concat(none, h.row), slices.Concat(h.row, none)} {
			want := api.ErrGrammar
			if count == 0 {
				want = api.OK
			}
			if _, e := held(t, row, most); e != want {
				t.Fatalf("%d empty ones that don't count: %d", count, e)
			}
			if _, e := held(t, mended(copied(row)), most); e != api.OK {
				t.Fatalf("%d empty ones: %d", count, e)
			}
		}
	}
}

func TestEachNumberOfTheTail(t *testing.T) { // P27.2: each is as said, though the end's agree with those of the great end
	for _, xs := range [][]file{nil, two()} {
		h := whole(xs, sometimes(source(), 40))
		b := slices.Concat(h.row...)
		great := len(b) - 98
		for _, c := range [][3]int{{great + 16, len(b) - 18, 2}, {great + 20, len(b) - 16, 2}, {great + 24, len(b) - 14, 2}, {great + 32, len(b) - 12, 2}, {great + 40, len(b) - 10, 4}, {great + 48, len(b) - 6, 4}} {
			for i := range c[2] {
				turned := slices.Clone(b)
				turned[c[0]+i] ^= 1
				turned[c[1]+i] ^= 1
				if _, e := held(t, alike(h.row, turned), most); e != api.ErrGrammar {
					t.Errorf("number at %d: %d", c[0], e)
				}
			}
		}
		for at := len(b) - 38; at < len(b)-22; at++ { // the locator's
			turned := slices.Clone(b)
			turned[at] ^= 2
			if _, e := held(t, alike(h.row, turned), most); e != api.ErrGrammar {
				t.Errorf("number at %d: %d", at, e)
			}
		}
	}
}

// alike is bytes in volumes as long as those of a row.
func alike(row [][]byte, b []byte) [][]byte {
	var other [][]byte
	for _, v := range row {
		other = append(other, b[:len(v)])
		b = b[len(v):]
	}
	return other
}

// closedBy is a row of files whose records are turned.
func closedBy(xs []file, turn func(recs []central.Record) []central.Record) [][]byte {
	h := &hand{ends: never}
	h.directory(turn(h.files(xs)))
	return h.row
}

func TestOtherRecords(t *testing.T) { // P27.2: the same headers, at their places, in the same order
	for i, turn := range []func(recs []central.Record) []central.Record{
		func(recs []central.Record) []central.Record { return recs[:1] },
		func(recs []central.Record) []central.Record { return recs[1:] },
		func(recs []central.Record) []central.Record { return nil },
		func(recs []central.Record) []central.Record { return append(recs, recs[1]) },
		func(recs []central.Record) []central.Record { slices.Reverse(recs); return recs },
		func(recs []central.Record) []central.Record { recs[0].Disk = 1; return recs },
		func(recs []central.Record) []central.Record { recs[0].Disk = 65535; return recs },
		func(recs []central.Record) []central.Record { recs[1].Offset++; return recs },
		func(recs []central.Record) []central.Record { recs[1].Offset = 1<<32 - 1; return recs },
		func(recs []central.Record) []central.Record { recs[0].Name = "A"; return recs },
		func(recs []central.Record) []central.Record { recs[0].Sum ^= 1; return recs },
		func(recs []central.Record) []central.Record { recs[0].Packed++; return recs },
		func(recs []central.Record) []central.Record { recs[1].Size--; return recs },
		func(recs []central.Record) []central.Record { recs[1].Method = 0; return recs },
		func(recs []central.Record) []central.Record { recs[1].Time.Second += 2; return recs },
	} {
		if walk, e := held(t, closedBy(two(), turn), most); walk != api.OK || e != api.ErrGrammar {
			t.Errorf("case %d: %d, %d", i, walk, e)
		}
	}
	if _, e := held(t, closedBy(two(), func(recs []central.Record) []central.Record { return recs }), most); e != api.OK {
		t.Errorf("as they are: %d", e)
	}
}

func TestPiecesInAnyOrder(t *testing.T) { // P27.1
	r := source()
	h := whole(two(), never)
	b := string(h.row[0])
	var pieces []string
	for first, size := range fixedPieces(h) {
		pieces = append(pieces, b[first:first+size])
	}
	for _, p := range h.parts {
		pieces = append(pieces, string(p.Data))
	}
	pieces = append(pieces, "P", "PK", "PK\x03", fileSign, header(t, local.Header{Time: day, Name: "e"}), header(t, local.Header{Time: day, Name: "e", Packed: 1 << 32}))
	slices.Sort(pieces)
	for range 4000 {
		row := [][]byte{[]byte(sign)}
		for range r.IntN(8) {
			if r.IntN(4) == 0 {
				row = append(row, nil)
			}
			row[len(row)-1] = append(row[len(row)-1], pieces[r.IntN(len(pieces))]...)
		}
		held(t, row, most)
		held(t, mended(row), most)
	}
}

func TestWalkErrors(t *testing.T) { // P27.1, P1
	head := local.Header{Time: day, Name: "e", Packed: 3}
	e := header(t, head)
	other := func(at int, v byte) string { return e[:at] + string(v) + e[at+1:] }
	for i, c := range []struct {
		row   [][]byte
		count int
		at    int
		want  api.Errno
	}{
		{nil, 0, 0, api.ErrSign},
		{[][]byte{}, 0, 0, api.ErrSign},
		{[][]byte{nil, {}, nil}, 0, 0, api.ErrSign},
		{one("PK\x07"), 0, 0, api.ErrSign},
		{one("PK\x07\x09"), 0, 0, api.ErrSign},
		{one(fileSign), 0, 0, api.ErrSign},
		{one("\x00" + sign), 0, 0, api.ErrSign},
		{one(e), 0, 0, api.ErrSign},
		{[][]byte{[]byte("PK\x07"), []byte("\x08")}, 0, 0, api.ErrSign},
		{[][]byte{[]byte("P"), []byte(sign)}, 0, 0, api.ErrSign},
		{one(sign), 0, 4, api.OK},
		{[][]byte{nil, []byte(sign), nil}, 0, 4, api.OK},
		{one(sign, "PK\x03"), 0, 4, api.OK},
		{one(sign, "PK\x03\x05"), 0, 4, api.OK},
		{[][]byte{[]byte(sign + "PK\x03"), []byte(e[3:] + "abc")}, 0, 4, api.OK}, // the next four aren't one volume's
		{one(sign, fileSign), 0, 0, api.ErrShort},
		{one(sign, e[:30]), 0, 0, api.ErrShort},
		{[][]byte{[]byte(sign + e[:30]), []byte(e[30:] + "abc")}, 0, 0, api.ErrShort}, // its header isn't in one
		{[][]byte{[]byte(sign + e[:4]), []byte(e[4:] + "abc")}, 0, 0, api.ErrShort},
		{one(sign, other(4, 21), "abc"), 0, 0, api.ErrForm},
		{one(sign, other(8, 1), "abc"), 0, 0, api.ErrMethod},
		{one(sign, other(12, 0), other(13, 0), "abc"), 0, 0, api.ErrTime},
		{one(sign, other(30, ':'), "abc"), 0, 0, api.ErrName},
		{one(sign, e), 0, 0, api.ErrShort},
		{one(sign, e, "ab"), 0, 0, api.ErrShort},
		{one(sign, e, "abc"), 1, 38, api.OK},
		{one(sign, e, "abcPK\x03"), 1, 38, api.OK},
		{one(sign, e, "PK\x03", "\x04"), 1, 38, api.OK},
		{one(sign, e, "abc", e, "ab"), 0, 0, api.ErrShort},
		{one(sign, e, "abc", e, "abc"), 2, 72, api.OK}, // twice the same name
		{[][]byte{[]byte(sign), []byte(e), []byte("a"), nil, []byte("b"), []byte("c" + e), []byte("abc")}, 2, 72, api.OK},
		{[][]byte{[]byte(sign), []byte(e), []byte("a"), nil, []byte("b"), nil, nil}, 0, 0, api.ErrShort},
		{one(sign, header(t, local.Header{Time: day, Name: "e", Packed: 1<<32 - 1}), "abc"), 0, 0, api.ErrShort},
		{one(sign, header(t, local.Header{Time: day, Name: "e", Packed: 1 << 63}), "abc"), 0, 0, api.ErrShort},
		{one(sign, header(t, local.Header{Time: day, Name: "e", Packed: math.MaxUint64}), "abc"), 0, 0, api.ErrShort},
		{one(sign, header(t, local.Header{Time: day, Name: "e", Packed: 3, Size: math.MaxUint64, Sum: 7}), "abc"), 1, 58, api.OK}, // they aren't unpacked
	} {
		parts, at, e := extract.Walk(c.row)
		if len(parts) != c.count || at != c.at || e != c.want {
			t.Errorf("case %d: %+v, %d, %d", i, parts, at, e)
		}
		held(t, c.row, most)
		held(t, mended(copied(c.row)), most)
	}
}

func TestRead(t *testing.T) { // P27.1
	h := local.Header{Method: 8, Time: day, Sum: 9, Packed: 1 << 40, Size: 3, Name: "a/b"}
	c := central.Record{Header: h, Disk: 65536, Offset: 5}
	head := header(t, h)
	record, _ := central.Write(c)
	turned := func(b string, at int, v byte) string { return b[:at] + string(v) + b[at+1:] }
	for i, x := range []struct {
		b    string
		want any
		n    int
	}{
		{head, h, len(head)},
		{head + "PK\x01\x02", h, len(head)},
		{string(record), c, len(record)},
		{string(record) + head, c, len(record)},
		{head[:len(head)-1], api.ErrShort, 0},
		{head[:4], api.ErrShort, 0},
		{turned(head, 4, 20), api.ErrForm, 0},
		{turned(head, 8, 9), api.ErrMethod, 0},
		{turned(head, 12, 0), api.ErrTime, 0},
		{turned(head, 31, '\\'), api.ErrName, 0},
		{string(record[:len(record)-1]), api.ErrShort, 0},
		{string(record[:4]), api.ErrShort, 0},
		{turned(string(record), 4, 20), api.ErrForm, 0},
		{turned(string(record), 10, 9), api.ErrMethod, 0},
		{turned(string(record), 14, 0), api.ErrTime, 0},
		{turned(string(record), 47, '\\'), api.ErrName, 0},
		{"", api.ErrSign, 0},
		{head[:3], api.ErrSign, 0},
		{string(record[:3]), api.ErrSign, 0},
		{sign + head, api.ErrSign, 0},
		{"\x00" + string(record), api.ErrSign, 0},
	} {
		b := []byte(x.b)
		got, n := extract.Read(b)
		if got != x.want || n != x.n || string(b) != x.b {
			t.Errorf("case %d: %+v, %d, not %+v, %d", i, got, n, x.want, x.n)
		}
		clear(b)
		if name, ok := extract.Name(got); ok != (x.n > 0) || ok && name != "a/b" || !ok && name != "" {
			t.Errorf("case %d: %q, %v", i, name, ok)
		}
	}
	if got, n := extract.Read(nil); got != any(api.ErrSign) || n != 0 {
		t.Errorf("of nothing: %v, %d", got, n)
	}
}

func TestName(t *testing.T) { // P27.1
	type other struct{ local.Header }
	type likewise local.Header
	h := local.Header{Name: "a"}
	c := central.Record{Header: h}
	for i, x := range []struct {
		v    any
		name string
		ok   bool
	}{
		{h, "a", true},
		{c, "a", true},
		{local.Header{}, "", true},
		{central.Record{}, "", true},
		{local.Header{Name: "\xFF//"}, "\xFF//", true},
		{nil, "", false},
		{api.ErrSign, "", false},
		{api.OK, "", false},
		{&h, "", false},
		{&c, "", false},
		{(*local.Header)(nil), "", false},
		{other{h}, "", false},
		{likewise(h), "", false},
		{extract.Part{Head: h}, "", false},
		{api.Entry{Name: "a"}, "", false},
		{"a", "", false},
		{[]byte("a"), "", false},
		{func() {}, "", false},
		{map[string]int{"a": 1}, "", false},
	} {
		if name, ok := extract.Name(x.v); name != x.name || ok != x.ok {
			t.Errorf("case %d: %q, %v", i, name, ok)
		}
	}
}

// sumOf is the sum of a text.
func sumOf(s string) uint32 { return crc32.ChecksumIEEE([]byte(s)) }

func TestUnpack(t *testing.T) { // P27.1, P1
	type part = extract.Part
	laid := func(method, size int, sum uint32, data string) part {
		return part{Head: local.Header{Method: method, Size: uint64(size), Sum: sum, Name: "//", Packed: 99}, At: -1, Data: []byte(data)}
	}
	a := "\x73\x04\x00" // A, packed
	for i, c := range []struct {
		p    part
		most int
		data string
		want api.Errno
	}{
		{laid(0, 3, sumOf("abc"), "abc"), 3, "abc", api.OK},
		{laid(0, 3, sumOf("abc"), "abc"), math.MaxInt, "abc", api.OK},
		{laid(0, 0, 0, ""), 0, "", api.OK},
		{laid(0, 0, 0, ""), -1, "", api.OK},
		{laid(0, 0, 0, ""), math.MinInt, "", api.OK},
		{laid(8, 1, sumOf("A"), a), 1, "A", api.OK},
		{laid(8, 0, 0, "\x03\x00"), -5, "", api.OK},
		{laid(0, 3, sumOf("abc"), "abc"), 2, "", api.ErrFull},
		{laid(0, 1, sumOf("a"), "a"), -1, "", api.ErrFull},
		{laid(1, 1, 0, "a"), 0, "", api.ErrFull},
		{part{Head: local.Header{Size: math.MaxUint64}}, math.MaxInt, "", api.ErrFull},
		{part{Head: local.Header{Size: 1 << 63}}, math.MaxInt, "", api.ErrFull},
		{part{Head: local.Header{Size: math.MaxInt}}, math.MaxInt, "", api.ErrForm},
		{part{Head: local.Header{Size: math.MaxInt, Method: 8}, Data: []byte(a)}, math.MaxInt, "", api.ErrForm},
		{laid(1, 1, 0, "a"), 1, "", api.ErrMethod},
		{laid(-8, 5, 0, "a"), 5, "", api.ErrMethod},
		{laid(9, 0, 0, ""), 0, "", api.ErrMethod},
		{laid(8, 0, 0, ""), 0, "", api.ErrShort},
		{laid(8, 0, 0, "\x07"), 0, "", api.ErrBlock},
		{laid(8, 1, 0, "\x01\x01\x00\xFE\xFEA"), 1, "", api.ErrStored},
		{laid(8, 1, 0, a+"x"), 1, "", api.ErrMore},
		{laid(8, 0, sumOf("A"), a), 9, "", api.ErrFull}, // layer 12's, of one byte more than its size
		{laid(8, 2, sumOf("A"), a), 9, "", api.ErrForm},
		{laid(0, 2, sumOf("abc"), "abc"), 9, "", api.ErrForm},
		{laid(0, 4, 1, "abc"), 9, "", api.ErrForm},
		{laid(0, 0, 0, "abc"), 0, "", api.ErrForm},
		{laid(0, 3, sumOf("abc")^1, "abc"), 9, "", api.ErrSum},
		{laid(0, 0, 1, ""), 0, "", api.ErrSum},
		{laid(8, 1, 0, a), 9, "", api.ErrSum},
	} {
		before := slices.Clone(c.p.Data)
		x, e := extract.Unpack(c.p, c.most)
		if e != c.want || string(x.Data) != c.data || !bytes.Equal(c.p.Data, before) {
			t.Errorf("case %d: %q, %d", i, x.Data, e)
		}
		if e == api.OK && (x.Name != c.p.Head.Name || x.Time != c.p.Head.Time) || e != api.OK && (x.Name != "" || x.Time != api.Stamp{} || x.Data != nil) {
			t.Errorf("case %d: %+v, %d", i, x, e)
		}
		if y, f := unpacked(c.p, c.most); !sameEntry(x, y) || e != f {
			t.Errorf("case %d: %+v, %d, not %+v, %d", i, x, e, y, f)
		}
	}
}

func TestMost(t *testing.T) { // P27.1: what files have in all is held by it, file by file
	xs := append(someFiles(source(), 6), two()...)
	h := whole(xs, never)
	all := 0
	for _, x := range xs {
		all += len(x.x.Data)
	}
	for _, most := range []int{math.MinInt, -1, 0, 1, all / 2, all - 1, all, all + 1, math.MaxInt} {
		want := api.OK
		if most < all {
			want = api.ErrFull
		}
		if _, e := held(t, h.row, most); e != want {
			t.Errorf("%d of %d: %d", most, all, e)
		}
	}
	none := whole([]file{{api.Entry{Name: "a", Time: day}, 0}, {api.Entry{Name: "b", Time: day}, 0}}, never)
	if _, e := held(t, none.row, math.MinInt); e != api.OK {
		t.Errorf("of nothing: %d", e)
	}
}

func TestParseErrors(t *testing.T) { // P27.1, P1: which error is told where several apply
	laid := func(name, data string, turn func(h *local.Header)) string {
		h := local.Header{Time: day, Sum: sumOf(data), Packed: uint64(len(data)), Size: uint64(len(data)), Name: name}
		if turn != nil {
			turn(&h)
		}
		return header(t, h) + data
	}
	ok := laid("a", "abc", nil)
	other := laid("b", "xy", nil)
	sum := laid("c", "abc", func(h *local.Header) { h.Sum++ })
	form := laid("d", "abc", func(h *local.Header) { h.Size = 2 })
	packed := laid("e", "\x07", func(h *local.Header) { h.Method = 8 })
	great := laid("f", "abc", func(h *local.Header) { h.Size = 1 << 50 })
	sumTwice := laid("a", "abc", func(h *local.Header) { h.Sum++ })
	for i, c := range []struct {
		b    string
		want api.Errno
	}{
		{ok, api.ErrGrammar},
		{ok + other, api.ErrGrammar},
		{ok + ok, api.ErrTwice},
		{ok + other + ok, api.ErrTwice},
		{ok + sum, api.ErrSum},
		{ok + form, api.ErrForm},
		{ok + packed, api.ErrBlock},
		{ok + great, api.ErrFull},
		{ok + ok + sum, api.ErrTwice},
		{ok + sum + ok, api.ErrSum},
		{ok + sumTwice, api.ErrSum}, // of one file what it unpacks to comes first
		{sum + form, api.ErrSum},
		{form + sum, api.ErrForm},
		{great + form, api.ErrFull},
		{ok + ok + fileSign, api.ErrShort}, // Walk's comes ahead of all these
		{ok + sum + ok[:len(ok)-1], api.ErrShort},
		{ok + "PK\x03", api.ErrGrammar},
	} {
		if _, e := held(t, one(sign, c.b), 1000); e != c.want {
			t.Errorf("case %d: %d", i, e)
		}
	}
	room := strings.Repeat("\x00", 2*47+98)
	if _, e := held(t, mended(one(sign, ok, other, room)), 5); e != api.OK {
		t.Errorf("with a directory: %d", e)
	}
	if _, e := held(t, mended(one(sign, ok, ok, room)), 6); e != api.ErrTwice {
		t.Errorf("one twice, with a directory: %d", e)
	}
	if _, e := held(t, one(sign, ok, other), 4); e != api.ErrFull {
		t.Errorf("4 bytes at most: %d", e)
	}
	if _, e := held(t, one(sign, ok, ok), 5); e != api.ErrFull {
		t.Errorf("5 bytes at most, and one twice: %d", e)
	}
}

func TestTail(t *testing.T) { // P27.1: of whatever is handed in
	r := source()
	h := whole(two(), sometimes(r, 50))
	row, size := h.row, len(cells(h.row))
	turned := func(turn func(p *extract.Part)) []extract.Part {
		parts := slices.Clone(h.parts)
		turn(&parts[1])
		return parts
	}
	for i, c := range []struct {
		parts []extract.Part
		at    int
		ok    bool
	}{
		{h.parts, h.at, true},
		{h.parts, 0, true},
		{h.parts, h.at + 22, true}, // the end's place is the row's end, and that's a place
		{h.parts, h.at + 23, false},
		{h.parts, -1, false},
		{h.parts, math.MinInt, false},
		{h.parts, math.MaxInt, false},
		{h.parts, math.MaxInt - 60, false},
		{nil, 0, true},
		{nil, size - 76, true},
		{nil, size - 75, false},
		{nil, size, false},
		{nil, -1, false},
		{nil, -60, false},
		{nil, math.MaxInt - 10, false},
		{turned(func(p *extract.Part) { p.At = -1 }), h.at, false},
		{turned(func(p *extract.Part) { p.At = math.MinInt }), h.at, false},
		{turned(func(p *extract.Part) { p.At = 0 }), h.at, true},
		{turned(func(p *extract.Part) { p.At = size }), h.at, true},
		{turned(func(p *extract.Part) { p.At = size + 1 }), h.at, false},
		{turned(func(p *extract.Part) { p.At = math.MaxInt }), h.at, false},
		{turned(func(p *extract.Part) { p.Head.Name = "" }), h.at, false},
		{turned(func(p *extract.Part) { p.Head.Name = "a//b" }), h.at, false},
		{turned(func(p *extract.Part) { p.Head.Name = "a" }), h.at, true},
		{turned(func(p *extract.Part) { p.Head.Time = api.Stamp{} }), h.at, false},
		{turned(func(p *extract.Part) { p.Head.Time.Second = 1 }), h.at, false},
		{turned(func(p *extract.Part) { p.Head.Method = 7 }), h.at, false},
		{turned(func(p *extract.Part) { p.Data = nil }), h.at, true},
		{turned(func(p *extract.Part) { p.Head.Packed = math.MaxUint64 }), 0, true},
		{turned(func(p *extract.Part) { p.Head.Sum++ }), h.at, true},
	} {
		want, wanted := tailed(row, c.parts, c.at)
		b, ok := extract.Tail(row, c.parts, c.at)
		if wanted != c.ok || ok != c.ok || string(b) != string(want) || !ok && b != nil {
			t.Errorf("case %d: %q, %v, not %q, %v", i, b, ok, want, wanted)
		}
	}
	for _, row := range [][][]byte{nil, {nil}, {nil, {1}, nil}} {
		if b, ok := extract.Tail(row, nil, 0); b != nil || ok {
			t.Errorf("of %v: %q, %v", row, b, ok)
		}
	}
}

func TestTailOfAnyParts(t *testing.T) { // P27.1: in no order
	r := source()
	for range 500 {
		h := whole(someFiles(r, r.IntN(4)), sometimes(r, 10))
		size := len(cells(h.row))
		var parts []extract.Part
		for range r.IntN(4) {
			parts = append(parts, extract.Part{Head: local.Header{Time: day, Name: strconv.Itoa(r.IntN(99))}, At: r.IntN(size+3) - 1})
		}
		at := r.IntN(size+3) - 1
		want, wanted := tailed(h.row, parts, at)
		if b, ok := extract.Tail(h.row, parts, at); string(b) != string(want) || ok != wanted {
			t.Fatalf("%q, %+v, %d: %q, %v, not %q, %v", h.row, parts, at, b, ok, want, wanted)
		}
	}
}

func TestMemoryIsNew(t *testing.T) { // P2, P27.1: nothing is kept, and nothing shared
	h := whole(two(), sometimes(source(), 30))
	parts, at, _ := extract.Walk(h.row)
	files, _ := extract.Parse(h.row, most)
	b, _ := extract.Tail(h.row, parts, at)
	want := slices.Clone(b)
	for _, v := range h.row {
		clear(v[:cap(v)])
	}
	if !slices.EqualFunc(parts, h.parts, samePart) || !slices.EqualFunc(files, entries(two()), sameEntry) || !bytes.Equal(b, want) {
		t.Error("an answer shares the row's memory")
	}
	var all []extract.Part
	for _, p := range parts {
		x, _ := extract.Unpack(p, most)
		all = append(all, p)
		y := x.Data[:cap(x.Data)]
		for i := range y {
			y[i] ^= 0xFF
		}
	}
	if !slices.EqualFunc(all, h.parts, samePart) {
		t.Error("a file shares its part's memory")
	}
	for i := range parts { // nor does one part another's
		d := parts[i].Data[:cap(parts[i].Data)]
		for j := range d {
			d[j] = byte(i)
		}
	}
	for i, p := range parts {
		if len(slices.DeleteFunc(p.Data, func(v byte) bool { return v == byte(i) })) > 0 {
			t.Error("parts share memory")
		}
	}
}

func TestMoreThanTheEndTells(t *testing.T) { // P27.1: 65535 volumes, or records, and more
	const many = 65540
	ahead := 0
	h := whole(two(), func() int { // all volumes but the last one are empty
		ahead++
		if ahead == 1 {
			return many
		}
		return 0
	})
	if len(h.row) != many {
		t.Fatalf("%d volumes", len(h.row))
	}
	if xs, e := extract.Parse(h.row, most); e != api.OK || !slices.EqualFunc(xs, entries(two()), sameEntry) {
		t.Errorf("%d volumes: %d", many, e)
	}
	var xs []file
	for i := range many {
		xs = append(xs, file{x: api.Entry{Name: strconv.Itoa(i), Time: day}})
	}
	row := whole(xs, sometimes(source(), 1000)).row
	if got, e := extract.Parse(row, 0); e != api.OK || !slices.EqualFunc(got, entries(xs), sameEntry) {
		t.Errorf("%d files: %d", many, e)
	}
}

func TestManyFilesInManyVolumes(t *testing.T) { // P1: the row is gone through once
	const many = 100000
	var xs []file
	for i := range many {
		xs = append(xs, file{x: api.Entry{Name: strconv.Itoa(i), Time: day, Data: []byte{1}}})
	}
	began := time.Now()
	for _, ends := range []func() int{never, func() int { return 1 }} {
		row := whole(xs, ends).row
		if got, e := extract.Parse(row, many); e != api.OK || len(got) != many {
			t.Errorf("%d files, %d", len(got), e)
		}
	}
	if took := time.Since(began); took > 30*time.Second {
		t.Errorf("it took %v", took)
	}
}
