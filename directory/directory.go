// Package directory is what layers 27 and 28 both tell a directory by: where things stand in a row, and the records and the tail that tell it.
package directory

import (
	"slices"

	"footlocker/api"
	"footlocker/central"
	"footlocker/local"
	"footlocker/tail"
	"footlocker/volume"
)

// Finder tells of a row what layer 21 does, but goes on at the volume that was found last: things that stand one behind the other are found in one go through the row, however many volumes it has.
type Finder struct {
	row   [][]byte
	disk  int // the volume that was found last
	ahead int // how many bytes stand ahead of it
}

// Find is a finder in a row. It reads that row itself, no copy.
func Find(row [][]byte) *Finder { return &Finder{row: row} }

// Place is the place at which so many bytes stand ahead.
func (f *Finder) Place(at int) (api.Place, bool) {
	if at < f.ahead {
		f.disk, f.ahead = 0, 0
	}
	p, ok := volume.Place(f.row[f.disk:], at-f.ahead)
	if !ok {
		return api.Place{}, false
	}
	f.disk += p.Disk
	f.ahead = at - p.At
	return api.Place{Disk: f.disk, At: p.At}, true
}

// Rest is the bytes from there on up to that volume's end. They are the row's own, so that asking often costs nothing.
func (f *Finder) Rest(at int) []byte {
	p, ok := f.Place(at)
	if !ok || p.Disk == len(f.row) {
		return nil
	}
	return f.row[p.Disk][p.At:]
}

// Bytes is a copy of the n bytes from there on.
func (f *Finder) Bytes(at, n int) ([]byte, bool) {
	first, ok := f.Place(at)
	if !ok || n < 0 {
		return nil, false
	}
	behind, ok := f.Place(at + n)
	if !ok {
		return nil, false
	}
	within := f.row[first.Disk:min(behind.Disk+1, len(f.row))]
	return volume.Bytes(within, first.At, n)
}

// Record is the record of a header that stands at a place.
func Record(h local.Header, p api.Place) central.Record {
	return central.Record{Header: h, Disk: uint32(p.Disk), Offset: uint64(p.At)}
}

// Tail is the tail of a directory with such records. Where each of these stands, then the great end, the locator and the end, is asked of place, which is handed in bytes that are as many. There are no volumes behind the end's, as far as can be seen here.
func Tail(records [][]byte, place func(b []byte) (api.Place, bool)) (tail.Tail, bool) {
	count, none := len(records), tail.Tail{}
	places := make([]api.Place, 0, count+3)
	for _, b := range slices.Concat(records, [][]byte{tail.Great(none), tail.Locator(none), tail.End(none)}) {
		p, ok := place(b)
		if !ok {
			return none, false
		}
		places = append(places, p)
	}
	here := map[int]uint64{} // how many records stand on each disk
	for _, p := range places[:count] {
		here[p.Disk]++
	}
	first, great, end := places[0], places[count], places[count+2]
	return tail.Tail{
		Disk: uint32(end.Disk), Start: uint32(first.Disk), Here: here[end.Disk], Count: uint64(count),
		Size: uint64(volume.Size(records)), Offset: uint64(first.At),
		Disk64: uint32(great.Disk), Offset64: uint64(great.At), Disks: uint32(end.Disk + 1),
	}, true
}
