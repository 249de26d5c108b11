package rebuild_test

import (
	"bytes"
	"encoding/binary"
	"hash/crc32"
	"math/rand/v2"
	"slices"
	"strconv"
	"testing"

	"footlocker/api"
	"footlocker/central"
	"footlocker/deflate"
	"footlocker/extract"
	"footlocker/local"
	"footlocker/rebuild"
	"footlocker/span"
)

// source tells the same numbers in each run.
func source() *rand.Rand { return rand.New(rand.NewPCG(55, 56)) }

const (
	sign     = "PK\x07\x08" // what a row begins with
	fileSign = "PK\x03\x04" // what a header begins with
)

// model is volumes that are filled, by layer 22's words.
type model struct {
	size int
	row  []string
}

// record writes bytes in one volume, and tells where.
func (m *model) record(b string) api.Place {
	last := len(m.row) - 1
	if len(m.row[last])+len(b) > m.size {
		m.row = append(m.row, "")
		last++
	}
	p := api.Place{Disk: last, At: len(m.row[last])}
	m.row[last] += b
	return p
}

// lay writes a file, by the chapter's words.
func (m *model) lay(x api.Entry, level int) (central.Record, api.Errno) {
	method, b := deflate.Method(x.Data, level)
	h := local.Header{Method: method, Time: x.Time, Sum: crc32.ChecksumIEEE(x.Data), Packed: uint64(len(b)), Size: uint64(len(x.Data)), Name: x.Name}
	head, e := local.Write(h)
	if e != api.OK {
		return central.Record{}, e
	}
	if len(head) > m.size {
		return central.Record{}, api.ErrSmall
	}
	p := m.record(string(head))
	for _, v := range b {
		m.record(string([]byte{v}))
	}
	return central.Record{Header: h, Disk: uint32(p.Disk), Offset: uint64(p.At)}, api.OK
}

// numbers are numbers of so many bytes each, the lowest byte first.
func numbers(size int, all ...int) string {
	var b []byte
	for _, n := range all {
		b = append(b, binary.LittleEndian.AppendUint64(nil, uint64(n))[:size]...)
	}
	return string(b)
}

// close writes a directory, by the chapter's words: of more than 65535 volumes or records nothing is known here.
func (m *model) close(recs []central.Record) api.Errno {
	var all []string
	longest, size := 56, 0
	for _, c := range recs {
		b, e := central.Write(c)
		if e != api.OK {
			return e
		}
		all = append(all, string(b))
		longest = max(longest, len(b))
		size += len(b)
	}
	if longest > m.size {
		return api.ErrSmall
	}
	var places []api.Place
	for _, b := range all {
		places = append(places, m.record(b))
	}
	behind := &model{m.size, slices.Clone(m.row)} // where the three stand doesn't hang on what they tell
	great := behind.record(string(make([]byte, 56)))
	behind.record(string(make([]byte, 20)))
	end := behind.record(string(make([]byte, 22)))
	here := 0
	for _, p := range places {
		if p.Disk == end.Disk {
			here++
		}
	}
	first := append(places, great)[0]
	m.record("PK\x06\x06" + numbers(8, 44) + numbers(2, 45, 45) + numbers(4, end.Disk, first.Disk) + numbers(8, here, len(recs), size, first.At))
	m.record("PK\x06\x07" + numbers(4, great.Disk) + numbers(8, great.At) + numbers(4, len(behind.row)))
	m.record("PK\x05\x06" + numbers(2, end.Disk, first.Disk, here, len(recs)) + numbers(4, size, first.At) + numbers(2, 0))
	return api.OK
}

// cut is the first bytes of a row, told one by one.
func cut(row [][]byte, n int) []string {
	var left []string
	for _, b := range row {
		text := ""
		for _, v := range b {
			if n > 0 {
				text += string([]byte{v})
				n--
			}
		}
		if text != "" {
			left = append(left, text)
		}
	}
	return left
}

// rebuilt is a row with a new directory, by the chapter's words.
func rebuilt(row [][]byte, size int) ([]string, api.Errno) {
	parts, at, e := extract.Walk(row)
	if e != api.OK {
		return nil, e
	}
	for i, p := range parts {
		for _, q := range parts[:i] {
			if p.Head.Name == q.Head.Name {
				return nil, api.ErrTwice
			}
		}
	}
	if size < 5 || size > 1<<24 {
		return nil, api.ErrArg
	}
	m := model{size, cut(row, at)}
	for _, b := range m.row {
		if len(b) > size {
			return nil, api.ErrForm
		}
	}
	var recs []central.Record
	for _, p := range parts {
		disk, ahead := 0, p.At // in the volumes that are left
		for ahead >= len(m.row[disk]) {
			ahead -= len(m.row[disk])
			disk++
		}
		recs = append(recs, central.Record{Header: p.Head, Disk: uint32(disk), Offset: uint64(ahead)})
	}
	if e := m.close(recs); e != api.OK {
		return nil, e
	}
	return m.row, api.OK
}

// texts is volumes as texts.
func texts(row [][]byte) []string {
	var all []string
	for _, b := range row {
		all = append(all, string(b))
	}
	return all
}

// volumes is texts as volumes.
func volumes(row ...string) [][]byte {
	var all [][]byte
	for _, b := range row {
		all = append(all, []byte(b))
	}
	return all
}

// pair is a writer and its model.
type pair struct {
	t *testing.T
	w *span.Writer
	m *model
}

// newPair is a new writer, and its model.
func newPair(t *testing.T, size int) *pair {
	t.Helper()
	w, e := span.New(size)
	if e != api.OK {
		t.Fatalf("volumes of %d: %d", size, e)
	}
	return &pair{t, w, &model{size, []string{sign}}}
}

// check holds the writer's volumes against the model's.
func (p *pair) check() {
	p.t.Helper()
	if got := texts(p.w.Row()); !slices.Equal(got, p.m.row) {
		p.t.Fatalf("volumes of %d: %q, not %q", p.m.size, got, p.m.row)
	}
}

// lay writes a file to both. What was handed in is written over behind the call.
func (p *pair) lay(x api.Entry, level int) (central.Record, api.Errno) {
	p.t.Helper()
	want, wanted := p.m.lay(x, level)
	data := slices.Clone(x.Data)
	c, e := rebuild.Lay(p.w, api.Entry{Name: x.Name, Time: x.Time, Data: data}, level)
	if c != want || e != wanted || !bytes.Equal(data, x.Data) {
		p.t.Fatalf("Lay, volumes of %d, %+v, level %d: %+v, %d, not %+v, %d", p.m.size, x, level, c, e, want, wanted)
	}
	clear(data)
	p.check()
	return c, e
}

// close writes a directory to both.
func (p *pair) close(recs []central.Record) api.Errno {
	p.t.Helper()
	before := slices.Clone(recs)
	want := p.m.close(recs)
	if e := rebuild.Close(p.w, recs); e != want || !slices.Equal(recs, before) {
		p.t.Fatalf("Close, volumes of %d, %+v: %d, not %d", p.m.size, recs, e, want)
	}
	p.check()
	return want
}

// held checks that Rebuild answers what the chapter's words tell of a row, and that the row isn't turned.
func held(t *testing.T, row [][]byte, size int) ([][]byte, api.Errno) {
	t.Helper()
	before := texts(row)
	want, wanted := rebuilt(row, size)
	got, e := rebuild.Rebuild(row, size)
	if e != wanted || !slices.Equal(texts(got), want) || e != api.OK && got != nil {
		t.Fatalf("Rebuild, %q, %d: %q, %d, not %q, %d", row, size, got, e, want, wanted)
	}
	if !slices.Equal(texts(row), before) {
		t.Fatalf("%q is turned to %q", before, row)
	}
	return got, e
}

// day is a right stamp.
var day = api.Stamp{Year: 2026, Month: 11, Day: 20, Hour: 13, Minute: 33, Second: 8}

// someFiles are files of other names, whose bytes look like what stands between them.
func someFiles(r *rand.Rand, n int) []api.Entry {
	looks := []string{sign, fileSign, "PK\x01\x02", "PK\x06\x06", "PK\x06\x07", "PK\x05\x06", "the cat, the cat, ", "", "\x00\x00\x00", "z"}
	head, _ := local.Write(local.Header{Time: day, Name: "e", Packed: 9})
	looks = append(looks, string(head))
	var xs []api.Entry
	for i := range n {
		var b []byte
		for range r.IntN(9) {
			b = append(b, looks[r.IntN(len(looks))]...)
		}
		xs = append(xs, api.Entry{Name: "d/" + strconv.Itoa(i), Time: day, Data: b})
	}
	return xs
}

// archive is files that are laid, and closed.
func archive(t *testing.T, xs []api.Entry, size, level int) [][]byte {
	t.Helper()
	w, _ := span.New(size)
	var recs []central.Record
	for _, x := range xs {
		c, e := rebuild.Lay(w, x, level)
		if e != api.OK {
			t.Fatalf("volumes of %d, %+v: %d", size, x, e)
		}
		recs = append(recs, c)
	}
	if e := rebuild.Close(w, recs); e != api.OK {
		t.Fatalf("volumes of %d: %d", size, e)
	}
	return w.Row()
}

// isOf checks that a row is an archive of just these files.
func isOf(t *testing.T, row [][]byte, xs []api.Entry) {
	t.Helper()
	got, e := extract.Parse(row, 1<<30)
	same := slices.EqualFunc(got, xs, func(x, y api.Entry) bool {
		return x.Name == y.Name && x.Time == y.Time && bytes.Equal(x.Data, y.Data)
	})
	if e != api.OK || !same {
		t.Fatalf("%q: %+v, %d, not %+v", row, got, e, xs)
	}
}
