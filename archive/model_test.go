package archive_test

import (
	"bytes"
	"hash/crc32"
	"math/rand/v2"
	"slices"
	"strconv"
	"strings"
	"testing"

	"footlocker/api"
	"footlocker/archive"
	"footlocker/central"
	"footlocker/damage"
	"footlocker/extract"
	"footlocker/name"
	"footlocker/rebuild"
	"footlocker/span"
	"footlocker/stamp"
	"footlocker/stripe"
	"footlocker/volume"
)

const (
	sign      = "PK\x07\x08" // what a row begins with
	fileSign  = "PK\x03\x04" // what a header begins with
	maxVolume = 1 << 24      // how many bytes volumes have at most
	plenty    = 1 << 30      // more bytes than the files here have
)

// source tells the same numbers in each run.
func source() *rand.Rand { return rand.New(rand.NewPCG(59, 60)) }

// day is a right stamp.
var day = api.Stamp{Year: 2026, Month: 11, Day: 20, Hour: 16, Minute: 50, Second: 58}

// file is one of a name and bytes.
func file(name, data string) api.Entry { return api.Entry{Name: name, Time: day, Data: []byte(data)} }

// someFiles are files of other names, whose bytes look like what stands between them.
func someFiles(r *rand.Rand, n int) []api.Entry {
	looks := []string{sign, fileSign, "PK\x01\x02", "PK\x06\x06", "PK\x06\x07", "PK\x05\x06", "FLRV", "the cat, the cat, ", "", "\x00\x00\x00", "z"}
	xs := make([]api.Entry, n)
	for i := range xs {
		xs[i] = file("d/"+strconv.Itoa(i), "")
		for range r.IntN(9) {
			xs[i].Data = append(xs[i].Data, looks[r.IntN(len(looks))]...)
		}
	}
	return xs
}

// copied is files whose bytes are copies, with nothing but noughts behind them.
func copied(xs []api.Entry) []api.Entry {
	other := slices.Clone(xs)
	for i, x := range xs {
		other[i].Data = append(make([]byte, 0, len(x.Data)+3), x.Data...)
	}
	return other
}

// sameFiles tells whether files are the same, in the same order.
func sameFiles(a, b []api.Entry) bool {
	return slices.EqualFunc(a, b, func(x, y api.Entry) bool {
		return x.Name == y.Name && x.Time == y.Time && bytes.Equal(x.Data, y.Data)
	})
}

// sameTable tells whether two tables are the same, bit for bit.
func sameTable(a, b []api.Slot) bool {
	return slices.EqualFunc(a, b, func(x, y api.Slot) bool { return x.There == y.There && bytes.Equal(x.B, y.B) })
}

// slots is volumes as a table.
func slots(row ...[]byte) []api.Slot {
	var table []api.Slot
	for _, b := range row {
		table = append(table, api.Slot{There: true, B: b})
	}
	return table
}

// within tells whether a number is one of those from low to high.
func within(n, low, high int) bool { return low <= n && n <= high }

// wrong is what is wrong with what Create is handed in, as far as that can be told ahead of laying it, by the chapter's words.
func wrong(xs []api.Entry, o archive.Options) api.Errno {
	switch {
	case !within(o.Size, 5, maxVolume) || !within(o.Parity, 0, 254) || !within(o.Block, 1, maxVolume):
		return api.ErrArg
	case len(xs) > 4096:
		return api.ErrMany
	}
	for i, x := range xs {
		switch {
		case name.Check(x.Name) != api.OK:
			return api.ErrName
		case stamp.Check(x.Time) != api.OK:
			return api.ErrTime
		case len(x.Data) > 1<<20:
			return api.ErrLong
		case slices.ContainsFunc(xs[:i], func(y api.Entry) bool { return x.Name == y.Name }):
			return api.ErrTwice
		}
	}
	return api.OK
}

// created is the whole table of an archive, by the chapter's words.
func created(xs []api.Entry, o archive.Options) ([]api.Slot, api.Errno) {
	if e := wrong(xs, o); e != api.OK {
		return nil, e
	}
	w, _ := span.New(o.Size)
	var recs []central.Record
	for _, x := range xs {
		rec, e := rebuild.Lay(w, x, o.Level)
		if e != api.OK {
			return nil, api.ErrSmall
		}
		recs = append(recs, rec)
	}
	if rebuild.Close(w, recs) != api.OK {
		return nil, api.ErrSmall
	}
	return whole(w.Row(), stripe.Geometry{K: o.Parity, Size: o.Size, Block: o.Block})
}

// whole is the whole table of volumes, by the chapter's words, however many a geometry has.
func whole(row [][]byte, g stripe.Geometry) ([]api.Slot, api.Errno) {
	if len(row)+g.K > 255 {
		return nil, api.ErrVolumes
	}
	return damage.Set(row, g.K, g.Size, g.Block)
}

// heldCreate checks that Create answers what the chapter's words tell, and that nothing is turned or kept.
func heldCreate(t *testing.T, xs []api.Entry, o archive.Options) ([]api.Slot, api.Errno) {
	t.Helper()
	want, wanted := created(xs, o)
	mine := copied(xs)
	got, e := archive.Create(mine, o)
	if !sameFiles(mine, xs) {
		t.Fatalf("%+v: files are turned", o)
	}
	for i := range mine {
		clear(mine[i].Data[:cap(mine[i].Data)])
	}
	if e != wanted || !sameTable(got, want) || e != api.OK && got != nil {
		t.Fatalf("%+v, %d files: %d slots, %d, not %d, %d", o, len(xs), len(got), e, len(want), wanted)
	}
	return got, e
}

// create is the whole table of an archive of files, and its geometry.
func create(t *testing.T, xs []api.Entry, o archive.Options) ([]api.Slot, stripe.Geometry) {
	t.Helper()
	table, e := archive.Create(xs, o)
	if e != api.OK || len(table) <= o.Parity {
		t.Fatalf("%+v, %d files: %d slots, %d", o, len(xs), len(table), e)
	}
	return table, archive.Geometry(len(table)-o.Parity, o)
}

// isOf checks that a table is an archive of just these files.
func isOf(t *testing.T, table []api.Slot, g stripe.Geometry, xs []api.Entry) {
	t.Helper()
	if got, e := archive.Extract(table, g.N, plenty); e != api.OK || !sameFiles(got, xs) {
		t.Fatalf("%+v: %d files, %d, not %d", g, len(got), e, len(xs))
	}
	var want []string
	for _, x := range xs {
		want = append(want, x.Name)
	}
	if got, e := archive.Names(table, g.N); e != api.OK || !slices.Equal(got, want) {
		t.Fatalf("%+v: %q, %d, not %q", g, got, e, want)
	}
}

// sumsAt is the sums of a column's blocks.
func sumsAt(col []byte, block int) []uint32 {
	var sums []uint32
	for b := range slices.Chunk(col, block) {
		sums = append(sums, crc32.ChecksumIEEE(b))
	}
	return sums
}

// worst is at how many columns of a table a block isn't known by sums, where that is most.
func worst(table []api.Slot, g stripe.Geometry, sums [][]uint32) int {
	cols, there := damage.Columns(table, g)
	most := 0
	for block := range sums[0] {
		count := 0
		for i := range cols {
			if !there[i] || sumsAt(cols[i], g.Block)[block] != sums[i][block] {
				count++
			}
		}
		most = max(most, count)
	}
	return most
}

// verified is what is told of a table, by the chapter's words.
func verified(table []api.Slot, g stripe.Geometry) (archive.Report, api.Errno) {
	if !stripe.Right(g) || len(table) != g.N+g.K {
		return archive.Report{}, api.ErrArg
	}
	var r archive.Report
	var row [][]byte
	for i, s := range table {
		if s.There {
			r.There++
		}
		if s.There && i < g.N {
			row = append(row, s.B)
		}
	}
	if len(row) == g.N {
		made, e := damage.Set(row, g.K, g.Size, g.Block)
		r.Whole = e == api.OK && sameTable(made, table)
	}
	if s, ok := damage.Find(table); ok && s.G == g {
		r.Sealed, r.Worst = true, worst(table, g, s.Sums)
	}
	return r, api.OK
}

// heldVerify checks that Verify answers what the chapter's words tell, and that the table isn't turned.
func heldVerify(t *testing.T, table []api.Slot, g stripe.Geometry) (archive.Report, api.Errno) {
	t.Helper()
	before := volume.Clone(table)
	want, wanted := verified(table, g)
	got, e := archive.Verify(table, g)
	if got != want || e != wanted {
		t.Fatalf("%+v, %d slots: %+v, %d, not %+v, %d", g, len(table), got, e, want, wanted)
	}
	if !sameTable(table, before) {
		t.Fatalf("%+v: the table is turned", g)
	}
	return got, e
}

// rebuilt is the whole table with a new directory, by the chapter's words.
func rebuilt(table []api.Slot, g stripe.Geometry) ([]api.Slot, api.Errno) {
	if !stripe.Right(g) || len(table) != g.N+g.K {
		return nil, api.ErrArg
	}
	var row [][]byte
	for _, s := range table[:g.N] {
		if !s.There {
			return nil, api.ErrLost
		}
		if len(s.B) == 0 {
			return nil, api.ErrShort
		}
		row = append(row, s.B)
	}
	row, e := rebuild.Rebuild(row, g.Size)
	if e != api.OK {
		return nil, e
	}
	return whole(row, g)
}

// heldRebuild checks that Rebuild answers what the chapter's words tell, and that the table isn't turned.
func heldRebuild(t *testing.T, table []api.Slot, g stripe.Geometry) ([]api.Slot, api.Errno) {
	t.Helper()
	before := volume.Clone(table)
	want, wanted := rebuilt(table, g)
	got, e := archive.Rebuild(table, g)
	if e != wanted || !sameTable(got, want) || e != api.OK && got != nil {
		t.Fatalf("%+v, %d slots: %d slots, %d, not %d, %d", g, len(table), len(got), e, len(want), wanted)
	}
	if !sameTable(table, before) {
		t.Fatalf("%+v: the table is turned", g)
	}
	return got, e
}

// cut is the volumes of an archive's files, and of what stands ahead of them, alone; how many bytes these are.
func cut(t *testing.T, table []api.Slot, g stripe.Geometry) ([][]byte, int) {
	t.Helper()
	row, _ := volume.Row(table, g.N)
	_, at, e := extract.Walk(row)
	if e != api.OK {
		t.Fatalf("%+v: %d", g, e)
	}
	return rebuild.Cut(row, at), at
}

// without is a table of which some slots aren't there.
func without(table []api.Slot, lost ...int) []api.Slot {
	other := volume.Clone(table)
	for _, i := range lost {
		other[i] = api.Slot{}
	}
	return other
}

// turned is a table with one byte of a slot turned.
func turned(table []api.Slot, i, at int) []api.Slot {
	other := volume.Clone(table)
	other[i].B[at] ^= 1
	return other
}

// long is a name of so many bytes.
func long(n int) string { return strings.Repeat("n", n) }
