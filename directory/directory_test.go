package directory_test

import (
	"bytes"
	"math"
	"math/rand/v2"
	"testing"

	"footlocker/api"
	"footlocker/central"
	"footlocker/directory"
	"footlocker/local"
	"footlocker/tail"
	"footlocker/volume"
)

// rows are some, with and without volumes that are empty.
var rows = [][][]byte{
	nil, {nil}, {{}, nil, {}}, {[]byte("a")}, {[]byte("ab"), []byte("c")}, {nil, []byte("abc"), nil, nil, []byte("d"), nil},
	{[]byte("abcdefgh"), []byte("ij"), nil, []byte("klm"), []byte("n")},
}

// places are more than all of a row of n bytes.
func places(n int) []int {
	all := []int{math.MinInt, math.MaxInt, math.MaxInt - 1, -2}
	for at := -1; at < n+3; at++ {
		all = append(all, at)
	}
	return all
}

func TestFinderTellsWhatVolumeDoes(t *testing.T) { // P27.1: in whatever order it's asked
	r := rand.New(rand.NewPCG(57, 58))
	for _, row := range rows {
		f := directory.Find(row)
		all := places(volume.Size(row))
		for range 2000 {
			at, n := all[r.IntN(len(all))], r.IntN(volume.Size(row)+3)-1
			p, ok := f.Place(at)
			if want, wanted := volume.Place(row, at); p != want || ok != wanted {
				t.Fatalf("Place, %q, %d: %+v, %v, not %+v, %v", row, at, p, ok, want, wanted)
			}
			if b := f.Rest(at); !bytes.Equal(b, volume.Rest(row, at)) {
				t.Fatalf("Rest, %q, %d: %q", row, at, b)
			}
			b, ok := f.Bytes(at, n)
			if want, wanted := volume.Bytes(row, at, n); !bytes.Equal(b, want) || ok != wanted {
				t.Fatalf("Bytes, %q, %d, %d: %q, %v, not %q, %v", row, at, n, b, ok, want, wanted)
			}
			for i := range b {
				b[i] ^= 0xFF // it's a copy
			}
		}
	}
}

func TestRecord(t *testing.T) { // P27.1, P28.1
	h := local.Header{Method: 8, Sum: 1, Packed: 2, Size: 3, Name: "a"}
	if c := directory.Record(h, api.Place{Disk: 4, At: 1 << 40}); c != (central.Record{Header: h, Disk: 4, Offset: 1 << 40}) {
		t.Errorf("%+v", c)
	}
}

func TestTail(t *testing.T) { // P27.1, P28.1
	stand := []api.Place{{Disk: 1, At: 7}, {Disk: 3, At: 0}, {Disk: 3, At: 5}, {Disk: 5, At: 2}, {Disk: 6, At: 1}, {Disk: 7, At: 3}}
	records := [][]byte{make([]byte, 40), make([]byte, 50), make([]byte, 60)}
	for count, want := range []tail.Tail{
		{Disk: 3, Start: 1, Size: 0, Offset: 7, Disk64: 1, Offset64: 7, Disks: 4},
		{Disk: 5, Start: 1, Count: 1, Size: 40, Offset: 7, Disk64: 3, Offset64: 0, Disks: 6},
		{Disk: 6, Start: 1, Count: 2, Size: 90, Offset: 7, Disk64: 3, Offset64: 5, Disks: 7},
		{Disk: 7, Start: 1, Count: 3, Size: 150, Offset: 7, Disk64: 5, Offset64: 2, Disks: 8},
	} {
		var sizes []int
		got, ok := directory.Tail(records[:count], func(b []byte) (api.Place, bool) {
			sizes = append(sizes, len(b))
			return stand[len(sizes)-1], true
		})
		if got != want || !ok {
			t.Errorf("of %d records: %+v, %v, not %+v", count, got, ok, want)
		}
		if n := len(sizes); n != count+3 || sizes[n-3] != 56 || sizes[n-2] != 20 || sizes[n-1] != 22 {
			t.Errorf("of %d records: places were asked of %v", count, sizes)
		}
	}
	got, _ := directory.Tail(records, func([]byte) (api.Place, bool) { return api.Place{Disk: 2, At: 9}, true })
	if want := (tail.Tail{Disk: 2, Start: 2, Here: 3, Count: 3, Size: 150, Offset: 9, Disk64: 2, Offset64: 9, Disks: 3}); got != want {
		t.Errorf("on one disk: %+v", got)
	}
	for bad := range 6 {
		asked := 0
		got, ok := directory.Tail(records, func([]byte) (api.Place, bool) {
			asked++
			return api.Place{Disk: 1}, asked <= bad
		})
		if ok || got != (tail.Tail{}) {
			t.Errorf("without place %d: %+v, %v", bad, got, ok)
		}
	}
}
