package extract_test

import (
	"bytes"
	"compress/flate"
	"encoding/binary"
	"hash/crc32"
	"math/rand/v2"
	"slices"
	"strconv"
	"testing"

	"footlocker/api"
	"footlocker/central"
	"footlocker/extract"
	"footlocker/inflate"
	"footlocker/local"
	"footlocker/tail"
)

// source tells the same numbers in each run.
func source() *rand.Rand { return rand.New(rand.NewPCG(53, 54)) }

const (
	sign     = "PK\x07\x08" // what a row begins with
	fileSign = "PK\x03\x04" // what a header begins with
)

// cell is a byte of a row, and where it stands.
type cell struct {
	api.Place
	v byte
}

// cells is a row byte by byte.
func cells(row [][]byte) []cell {
	var all []cell
	for disk := range row {
		for at, v := range row[disk] {
			all = append(all, cell{api.Place{Disk: disk, At: at}, v})
		}
	}
	return all
}

// values is the bytes of cells.
func values(all []cell) []byte {
	var b []byte
	for _, c := range all {
		b = append(b, c.v)
	}
	return b
}

// inOne is the bytes of those cells that stand in the first one's volume.
func inOne(all []cell) []byte {
	n := 0
	for n < len(all) && all[n].Disk == all[0].Disk {
		n++
	}
	return values(all[:n])
}

// walked is the files of a row, by the chapter's words.
func walked(row [][]byte) ([]extract.Part, int, api.Errno) {
	all := cells(row)
	if !bytes.HasPrefix(inOne(all), []byte(sign)) {
		return nil, 0, api.ErrSign
	}
	var parts []extract.Part
	at := 4
	for bytes.HasPrefix(inOne(all[at:]), []byte(fileSign)) {
		h, n, e := local.Parse(inOne(all[at:]))
		if e != api.OK {
			return nil, 0, e
		}
		follow := all[at+n:]
		if uint64(len(follow)) < h.Packed {
			return nil, 0, api.ErrShort
		}
		parts = append(parts, extract.Part{Head: h, At: at, Data: values(follow[:h.Packed])})
		at += n + int(h.Packed)
	}
	return parts, at, api.OK
}

// unpacked is a file, by the chapter's words.
func unpacked(p extract.Part, most int) (api.Entry, api.Errno) {
	if most < 0 {
		most = 0
	}
	if p.Head.Size > uint64(most) {
		return api.Entry{}, api.ErrFull
	}
	b := p.Data
	switch p.Head.Method {
	case 0:
	case 8:
		all, e := inflate.All(p.Data, int(p.Head.Size))
		if e != api.OK {
			return api.Entry{}, e
		}
		b = all
	default:
		return api.Entry{}, api.ErrMethod
	}
	if len(b) != int(p.Head.Size) {
		return api.Entry{}, api.ErrForm
	}
	if crc32.ChecksumIEEE(b) != p.Head.Sum {
		return api.Entry{}, api.ErrSum
	}
	return api.Entry{Name: p.Head.Name, Time: p.Head.Time, Data: b}, api.OK
}

// parsed is the files of an archive, by the chapter's words: what follows the files is read, piece by piece.
func parsed(row [][]byte, most int) ([]api.Entry, api.Errno) {
	parts, at, e := walked(row)
	if e != api.OK {
		return nil, e
	}
	var files []api.Entry
	for _, p := range parts {
		x, e := unpacked(p, most)
		if e != api.OK {
			return nil, e
		}
		if slices.ContainsFunc(files, func(y api.Entry) bool { return x.Name == y.Name }) {
			return nil, api.ErrTwice
		}
		files = append(files, x)
		most -= len(x.Data)
	}
	if !followed(row, parts, at) {
		return nil, api.ErrGrammar
	}
	return files, api.OK
}

// followed tells whether files are followed by their directory, and by nothing else.
func followed(row [][]byte, parts []extract.Part, at int) bool {
	all := cells(row)
	left := all[at:]
	want := tail.Tail{Count: uint64(len(parts)), Disks: uint32(len(row))}
	var first api.Place
	var disks []int
	for i, p := range parts {
		c, n, e := central.Parse(inOne(left))
		place := all[p.At].Place
		if e != api.OK || c.Header != p.Head || c.Disk != uint32(place.Disk) || c.Offset != uint64(place.At) {
			return false
		}
		if i == 0 {
			first = left[0].Place
		}
		disks = append(disks, left[0].Disk)
		want.Size += uint64(n)
		left = left[n:]
	}
	var three [][]byte
	var places []api.Place
	for _, size := range []int{56, 20, 22} {
		b := inOne(left)
		if len(b) < size {
			return false
		}
		three = append(three, b[:size])
		places = append(places, left[0].Place)
		left = left[size:]
	}
	if len(parts) == 0 {
		first = places[0]
	}
	want.Start, want.Offset = uint32(first.Disk), uint64(first.At)
	want.Disk64, want.Offset64 = uint32(places[0].Disk), uint64(places[0].At)
	want.Disk = uint32(places[2].Disk)
	for _, disk := range disks {
		if disk == places[2].Disk {
			want.Here++
		}
	}
	got, e := tail.Parse(three[0], three[1], three[2])
	return e == api.OK && got == want && len(left) == 0
}

// ends are the great end, the locator and the end, by layer 20's words.
func ends(t tail.Tail) [][]byte {
	le := binary.LittleEndian
	great := append([]byte("PK\x06\x06"), 44, 0, 0, 0, 0, 0, 0, 0, 45, 0, 45, 0)
	great = le.AppendUint32(great, t.Disk)
	great = le.AppendUint32(great, t.Start)
	for _, n := range []uint64{t.Here, t.Count, t.Size, t.Offset} {
		great = le.AppendUint64(great, n)
	}
	locator := le.AppendUint32([]byte("PK\x06\x07"), t.Disk64)
	locator = le.AppendUint64(locator, t.Offset64)
	locator = le.AppendUint32(locator, t.Disks)
	end := []byte("PK\x05\x06")
	for _, n := range []uint64{uint64(t.Disk), uint64(t.Start), t.Here, t.Count} {
		end = le.AppendUint16(end, uint16(min(n, 65535)))
	}
	for _, n := range []uint64{t.Size, t.Offset} {
		end = le.AppendUint32(end, uint32(min(n, 1<<32-1)))
	}
	return [][]byte{great, locator, append(end, 0, 0)}
}

// tailed is what must follow files, by the chapter's words: places are told by cells, and the end.
func tailed(row [][]byte, parts []extract.Part, at int) ([]byte, bool) {
	var places []api.Place
	for _, c := range cells(row) {
		places = append(places, c.Place)
	}
	places = append(places, api.Place{Disk: len(row)})
	isOne := func(at int) bool { return at >= 0 && at < len(places) }
	var b []byte
	var stand []int
	for _, p := range parts {
		if !isOne(p.At) {
			return nil, false
		}
		stand = append(stand, at+len(b))
		c, e := central.Write(central.Record{Header: p.Head, Disk: uint32(places[p.At].Disk), Offset: uint64(places[p.At].At)})
		if e != api.OK {
			return nil, false
		}
		b = append(b, c...)
	}
	great := at + len(b)
	stand = append(stand, great, great+56, great+76)
	for _, at := range stand {
		if !isOne(at) {
			return nil, false
		}
	}
	first, end := places[stand[0]], places[great+76]
	t := tail.Tail{
		Disk: uint32(end.Disk), Start: uint32(first.Disk), Count: uint64(len(parts)), Size: uint64(len(b)), Offset: uint64(first.At),
		Disk64: uint32(places[great].Disk), Offset64: uint64(places[great].At), Disks: uint32(len(row)),
	}
	for _, at := range stand[:len(parts)] {
		if places[at].Disk == end.Disk {
			t.Here++
		}
	}
	return slices.Concat(b, slices.Concat(ends(t)...)), true
}

// file is a file as it is to be laid.
type file struct {
	x      api.Entry
	method int
}

// part is its header, and its bytes as they are laid (packed by Go's own library).
func (f file) part() extract.Part {
	b := f.x.Data
	if f.method == 8 {
		var to bytes.Buffer
		w, _ := flate.NewWriter(&to, 9)
		w.Write(b)
		w.Close()
		b = to.Bytes()
	}
	return extract.Part{Head: local.Header{
		Method: f.method, Time: f.x.Time, Sum: crc32.ChecksumIEEE(f.x.Data),
		Packed: uint64(len(b)), Size: uint64(len(f.x.Data)), Name: f.x.Name,
	}, Data: b}
}

// hand is a row that is laid by hand: whoever lays it says where volumes end.
type hand struct {
	row   [][]byte
	parts []extract.Part
	at    int
	ends  func() int // how many volumes end ahead of what is laid next: of more than one, all but the first are empty
}

// lay lays bytes in one volume, and tells where.
func (h *hand) lay(b []byte) api.Place {
	for range h.ends() {
		h.row = append(h.row, nil)
	}
	if len(h.row) == 0 {
		h.row = [][]byte{nil}
	}
	last := len(h.row) - 1
	p := api.Place{Disk: last, At: len(h.row[last])}
	h.row[last] = append(h.row[last], b...)
	return p
}

// files lays files, with the first four bytes, and tells their records.
func (h *hand) files(xs []file) []central.Record {
	h.lay([]byte(sign))
	h.at = 4
	var recs []central.Record
	for _, x := range xs {
		p := x.part()
		p.At = h.at
		head, _ := local.Write(p.Head)
		place := h.lay(head)
		recs = append(recs, central.Record{Header: p.Head, Disk: uint32(place.Disk), Offset: uint64(place.At)})
		for _, v := range p.Data {
			h.lay([]byte{v})
		}
		h.at += len(head) + len(p.Data)
		h.parts = append(h.parts, p)
	}
	return recs
}

// directory lays records and what stands behind them, and at last as many volumes as end there.
func (h *hand) directory(recs []central.Record) {
	t := tail.Tail{Count: uint64(len(recs))}
	var places []api.Place
	for _, c := range recs {
		b, _ := central.Write(c)
		places = append(places, h.lay(b))
		t.Size += uint64(len(b))
	}
	three := [3]api.Place{}
	for i, b := range ends(t) {
		three[i] = h.lay(b)
	}
	for range h.ends() {
		h.row = append(h.row, nil)
	}
	first := append(slices.Clone(places), three[0])[0]
	t.Disk, t.Start, t.Offset = uint32(three[2].Disk), uint32(first.Disk), uint64(first.At)
	t.Disk64, t.Offset64, t.Disks = uint32(three[0].Disk), uint64(three[0].At), uint32(len(h.row))
	for _, p := range places {
		if p.Disk == three[2].Disk {
			t.Here++
		}
	}
	for i, b := range ends(t) { // now that all places are known
		copy(h.row[three[i].Disk][three[i].At:], b)
	}
}

// whole is an archive of files that is laid by hand.
func whole(xs []file, ends func() int) *hand {
	h := &hand{ends: ends}
	h.directory(h.files(xs))
	return h
}

// never ends no volume: all is one.
func never() int { return 0 }

// sometimes ends a volume each so often, and several at once, too.
func sometimes(r *rand.Rand, often int) func() int {
	return func() int {
		if r.IntN(often) > 0 {
			return 0
		}
		return 1 + r.IntN(4)/3*r.IntN(3)
	}
}

// day is a right stamp.
var day = api.Stamp{Year: 2026, Month: 11, Day: 20, Hour: 13, Minute: 33, Second: 8}

// someFiles are files of other names, some of whose bytes look like what stands between them.
func someFiles(r *rand.Rand, n int) []file {
	looks := []string{sign, fileSign, "PK\x01\x02", "PK\x06\x06", "the cat, ", "", "\x00\x00", "z"}
	var xs []file
	for i := range n {
		var b []byte
		for range r.IntN(8) {
			b = append(b, looks[r.IntN(len(looks))]...)
		}
		xs = append(xs, file{api.Entry{Name: "d/" + strconv.Itoa(i), Time: day, Data: b}, 8 * r.IntN(2)})
	}
	return xs
}

// entries are files alone.
func entries(xs []file) []api.Entry {
	var all []api.Entry
	for _, x := range xs {
		all = append(all, x.x)
	}
	return all
}

// sameEntry tells whether two files are the same.
func sameEntry(x, y api.Entry) bool {
	return x.Name == y.Name && x.Time == y.Time && bytes.Equal(x.Data, y.Data)
}

// samePart likewise of those that are laid.
func samePart(p, q extract.Part) bool {
	return p.Head == q.Head && p.At == q.At && bytes.Equal(p.Data, q.Data)
}

// copied is a row of its own.
func copied(row [][]byte) [][]byte {
	other := slices.Clone(row)
	for i, b := range row {
		other[i] = slices.Clone(b)
	}
	return other
}

// sameRow tells whether two rows are the same.
func sameRow(a, b [][]byte) bool { return slices.EqualFunc(a, b, bytes.Equal) }

// held checks that Walk and Parse answer what the chapter's words tell of a row, and that it isn't turned. It tells both errors.
func held(t *testing.T, row [][]byte, most int) (walk, parse api.Errno) {
	t.Helper()
	before := copied(row)
	parts, at, e := walked(row)
	got, n, f := extract.Walk(row)
	if !slices.EqualFunc(got, parts, samePart) || n != at || f != e || f != api.OK && got != nil {
		t.Fatalf("Walk, %q: %+v, %d, %d, not %+v, %d, %d", row, got, n, f, parts, at, e)
	}
	files, g := parsed(row, most)
	xs, h := extract.Parse(row, most)
	if !slices.EqualFunc(xs, files, sameEntry) || h != g || h != api.OK && xs != nil {
		t.Fatalf("Parse, %q, %d: %+v, %d, not %+v, %d", row, most, xs, h, files, g)
	}
	if e == api.OK {
		want, wanted := tailed(row, parts, at)
		if b, ok := extract.Tail(row, parts, at); string(b) != string(want) || ok != wanted {
			t.Fatalf("Tail, %q: %q, %v, not %q, %v", row, b, ok, want, wanted)
		}
	}
	if !sameRow(row, before) {
		t.Fatalf("%q is turned to %q", before, row)
	}
	return e, g
}
