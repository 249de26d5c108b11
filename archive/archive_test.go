package archive_test

import (
	"archive/zip"
	"bytes"
	"io"
	"math"
	"slices"
	"strconv"
	"strings"
	"testing"
	"time"

	"footlocker/api"
	"footlocker/archive"
	"footlocker/damage"
	"footlocker/mend"
	"footlocker/seal"
	"footlocker/stripe"
	"footlocker/systematic"
	"footlocker/volume"
)

// some are options: volumes that just fit the greatest of pieces, and greater ones; no recovery, some, and much.
var some = []archive.Options{
	{Size: 60, Parity: 2, Level: 9, Block: 16},
	{Size: 56, Parity: 1, Level: 0, Block: 1},
	{Size: 57, Parity: 3, Level: 1, Block: 64},
	{Size: 76, Parity: 4, Level: -1, Block: 65},
	{Size: 97, Parity: 3, Level: 0, Block: 1000},
	{Size: 98, Parity: 0, Level: 6, Block: maxVolume},
	{Size: 150, Parity: 7, Level: 5, Block: 20},
	{Size: 500, Parity: 0, Level: math.MaxInt, Block: 50},
	{Size: 3000, Parity: 2, Level: math.MinInt, Block: 3007},
	{Size: 1000, Parity: 20, Level: 9, Block: 300},
}

func TestTheExample(t *testing.T) { // P29.1, P29.2
	table, g := create(t, nil, archive.Options{Size: 200, Parity: 1, Block: 50})
	if len(table) != 2 || len(table[0].B) != 102 || g != (stripe.Geometry{N: 1, K: 1, Size: 200, Block: 50}) {
		t.Fatalf("%d slots, of %+v", len(table), g)
	}
	isOf(t, table, g, nil)
}

func TestGeometry(t *testing.T) { // P29.1: whether it's right isn't asked
	for _, n := range []int{math.MinInt, -1, 0, 1, 7, 255, 256, math.MaxInt} {
		for _, o := range append(some, archive.Options{}, archive.Options{Size: -1, Parity: -2, Level: -3, Block: -4}) {
			if got := archive.Geometry(n, o); got != (stripe.Geometry{N: n, K: o.Parity, Size: o.Size, Block: o.Block}) {
				t.Errorf("%d, %+v: %+v", n, o, got)
			}
		}
	}
}

func TestCreated(t *testing.T) { // P29.1, P29.2
	r := source()
	for _, o := range some {
		for count := range 7 {
			xs := someFiles(r, count)
			table, e := heldCreate(t, xs, o)
			if e != api.OK {
				t.Fatalf("%+v, %d files: %d", o, count, e)
			}
			g := archive.Geometry(len(table)-o.Parity, o)
			isOf(t, table, g, xs)
			if r, e := heldVerify(t, table, g); r != (archive.Report{There: len(table), Sealed: o.Parity > 0, Whole: true}) || e != api.OK {
				t.Fatalf("%+v: %+v, %d", o, r, e)
			}
			if got, e := heldRebuild(t, table, g); e != api.OK || !sameTable(got, table) {
				t.Fatalf("%+v: rebuilt, %d", o, e)
			}
			if got, e := archive.Repair(table, g); e != api.OK || !sameTable(got, table) {
				t.Fatalf("%+v: repaired, %d", o, e)
			}
			if again, _ := archive.Create(xs, o); !sameTable(again, table) {
				t.Fatalf("%+v: another one", o)
			}
		}
	}
}

func TestRowsAreCodewords(t *testing.T) { // P29.1: volumes of recovery are those of the volumes
	r := source()
	for _, o := range some {
		table, g := create(t, someFiles(r, 4), o)
		cols, there := damage.Columns(table, g)
		if slices.Contains(there, false) {
			t.Fatalf("%+v: %v", o, there)
		}
		for at := range o.Size + 8 {
			word := make([]byte, len(cols))
			for i, col := range cols {
				word[i] = col[at]
			}
			if !systematic.Is(word, g.N) {
				t.Fatalf("%+v: row %d", o, at)
			}
		}
	}
}

func TestOthersReadIt(t *testing.T) { // P29.2: one of a single volume is a zip archive, as Go's own library reads it
	xs := append(someFiles(source(), 20), file("packed", strings.Repeat("the cat, ", 9000)), file("ünï/cödé", ""))
	for _, level := range []int{0, 1, 9} {
		table, _ := create(t, xs, archive.Options{Size: maxVolume, Level: level, Block: maxVolume})
		if len(table) != 1 {
			t.Fatalf("%d volumes", len(table))
		}
		z, err := zip.NewReader(bytes.NewReader(table[0].B), int64(len(table[0].B)))
		if err != nil || len(z.File) != len(xs) {
			t.Fatalf("level %d: %v", level, err)
		}
		for i, f := range z.File {
			r, err := f.Open()
			if err != nil {
				t.Fatal(err)
			}
			b, err := io.ReadAll(r)
			if err != nil || f.Name != xs[i].Name || !bytes.Equal(b, xs[i].Data) {
				t.Errorf("level %d: %q, %v", level, f.Name, err)
			}
			if at := f.Modified.UTC(); at != time.Date(2026, 11, 20, 16, 50, 58, 0, time.UTC) {
				t.Errorf("level %d: %q, %v", level, f.Name, at)
			}
		}
	}
}

func TestAnyAreLost(t *testing.T) { // P29.2: any K of few volumes
	for _, o := range []archive.Options{{Size: 60, Parity: 1, Level: 0, Block: 7}, {Size: 70, Parity: 2, Level: 9, Block: 100}, {Size: 90, Parity: 3, Level: 1, Block: 33}} {
		xs := []api.Entry{file("a", "hello"), file("b/c", "the cat, the cat, the cat, the cat")}
		table, g := create(t, xs, o)
		for lost := range 1 << len(table) {
			var which []int
			for i := range table {
				if lost>>i&1 == 1 {
					which = append(which, i)
				}
			}
			left := without(table, which...)
			got, e := archive.Repair(left, g)
			if len(which) <= o.Parity && (e != api.OK || !sameTable(got, table)) {
				t.Fatalf("%+v, without %v: %d", o, which, e)
			}
			if len(which) > o.Parity && (e != api.ErrLost || got != nil) {
				t.Fatalf("%+v, without %v: %d", o, which, e)
			}
			if len(which) == o.Parity {
				isOf(t, got, g, xs)
			}
			r, _ := heldVerify(t, left, g)
			want := archive.Report{There: len(table) - len(which), Sealed: r.Sealed, Whole: lost == 0}
			if r.Sealed {
				want.Worst = len(which)
			}
			if r != want {
				t.Fatalf("%+v, without %v: %+v", o, which, r)
			}
		}
	}
}

func TestManyAreLost(t *testing.T) { // P29.2: any K of many volumes
	r := source()
	for _, o := range []archive.Options{{Size: 60, Parity: 40, Level: 0, Block: 30}, {Size: 400, Parity: 9, Level: 9, Block: 400}, {Size: 200, Parity: 254, Block: 150}, {Size: 2000, Parity: 3, Level: 1, Block: 100}} {
		xs := someFiles(r, 30)
		if o.Parity == 254 {
			xs = nil
		}
		table, g := create(t, xs, o)
		for range 10 {
			left := without(table, r.Perm(len(table))[:o.Parity]...)
			got, e := archive.Repair(left, g)
			if e != api.OK || !sameTable(got, table) {
				t.Fatalf("%+v: %d", o, e)
			}
			isOf(t, got, g, xs)
		}
	}
}

func TestEachLength(t *testing.T) { // P29.1, P29.2: wherever volumes end
	for size := 56; size < 100; size += 3 {
		o := archive.Options{Size: size, Parity: 1, Block: 40}
		for n := range 2*size + 1 {
			xs := []api.Entry{file("a", strings.Repeat("x", n)), file("b", "")}
			table, e := heldCreate(t, xs, o)
			if e != api.OK {
				t.Fatalf("%+v, %d bytes: %d", o, n, e)
			}
			isOf(t, table, archive.Geometry(len(table)-1, o), xs)
		}
	}
}

func TestCreateErrors(t *testing.T) { // P29.1, P1: each, ahead of all that are named behind it
	o := archive.Options{Size: 100, Parity: 1, Block: 10}
	with := func(turn func(o *archive.Options)) archive.Options {
		other := o
		turn(&other)
		return other
	}
	small := with(func(o *archive.Options) { o.Size, o.Parity = 5, 254 })
	full := with(func(o *archive.Options) { o.Parity = 254 })
	a, b := file("a", "hello"), file("b", "")
	much := file("m", strings.Repeat("m", 30000))
	most := file("m", strings.Repeat("m", 1<<20))
	over := file("a", strings.Repeat("m", 1<<20+1))
	noName, noTime := file("x/", "hello"), api.Entry{Name: "a", Data: []byte("hello")}
	allWrong := api.Entry{Name: "a\\", Data: over.Data}
	wrongTime := api.Entry{Name: "a", Time: api.Stamp{Year: 2026, Month: 2, Day: 29}, Data: over.Data}
	for i, c := range []struct {
		xs   []api.Entry
		o    archive.Options
		want api.Errno
	}{
		{[]api.Entry{a, b}, o, api.OK},
		{nil, archive.Options{}, api.ErrArg},
		{nil, with(func(o *archive.Options) { o.Size = 4 }), api.ErrArg},
		{nil, with(func(o *archive.Options) { o.Size = 5 }), api.ErrSmall},
		{nil, with(func(o *archive.Options) { o.Size = -100 }), api.ErrArg},
		{nil, with(func(o *archive.Options) { o.Size = math.MinInt }), api.ErrArg},
		{nil, with(func(o *archive.Options) { o.Size = maxVolume }), api.OK},
		{nil, with(func(o *archive.Options) { o.Size = maxVolume + 1 }), api.ErrArg},
		{nil, with(func(o *archive.Options) { o.Size = math.MaxInt }), api.ErrArg},
		{nil, with(func(o *archive.Options) { o.Parity = 0 }), api.OK},
		{nil, with(func(o *archive.Options) { o.Parity = -1 }), api.ErrArg},
		{nil, with(func(o *archive.Options) { o.Parity = math.MinInt }), api.ErrArg},
		{nil, with(func(o *archive.Options) { o.Parity = 253 }), api.OK}, // of nothing there are two volumes then
		{nil, with(func(o *archive.Options) { o.Parity, o.Size = 254, 102 }), api.OK},
		{nil, with(func(o *archive.Options) { o.Parity = 254 }), api.ErrVolumes},
		{nil, with(func(o *archive.Options) { o.Parity = 255 }), api.ErrArg},
		{nil, with(func(o *archive.Options) { o.Parity = math.MaxInt }), api.ErrArg},
		{nil, with(func(o *archive.Options) { o.Block = 0 }), api.ErrArg},
		{nil, with(func(o *archive.Options) { o.Block = -1 }), api.ErrArg},
		{nil, with(func(o *archive.Options) { o.Block = 1 }), api.OK},
		{nil, with(func(o *archive.Options) { o.Block = maxVolume }), api.OK},
		{nil, with(func(o *archive.Options) { o.Block = maxVolume + 1 }), api.ErrArg},
		{nil, with(func(o *archive.Options) { o.Block = math.MaxInt }), api.ErrArg},
		{nil, with(func(o *archive.Options) { o.Level = math.MinInt }), api.OK},
		{nil, with(func(o *archive.Options) { o.Level = math.MaxInt }), api.OK},
		{make([]api.Entry, 4097), archive.Options{}, api.ErrArg},
		{make([]api.Entry, 4097), small, api.ErrMany},
		{make([]api.Entry, 4096), small, api.ErrName},
		{[]api.Entry{allWrong, allWrong}, small, api.ErrName},
		{[]api.Entry{noName}, o, api.ErrName},
		{[]api.Entry{file("", "")}, o, api.ErrName},
		{[]api.Entry{file(long(256), "")}, small, api.ErrName},
		{[]api.Entry{wrongTime, allWrong}, small, api.ErrTime},
		{[]api.Entry{noTime, noName}, o, api.ErrTime},
		{[]api.Entry{noName, noTime}, o, api.ErrName},
		{[]api.Entry{over, allWrong}, small, api.ErrLong},
		{[]api.Entry{a, over}, small, api.ErrLong}, // ahead of ErrTwice, of the same file
		{[]api.Entry{a, a, over}, small, api.ErrTwice},
		{[]api.Entry{a, b, noTime}, small, api.ErrTime},
		{[]api.Entry{a, b, a, noName}, small, api.ErrTwice},
		{[]api.Entry{a, b, file("A", ""), file("a/a", "")}, o, api.OK},
		{[]api.Entry{a, b}, small, api.ErrSmall},
		{nil, with(func(o *archive.Options) { o.Size, o.Parity = 55, 254 }), api.ErrSmall},
		{nil, with(func(o *archive.Options) { o.Size = 56 }), api.OK},
		{[]api.Entry{file(long(54), "")}, o, api.OK}, // its record has just 100 bytes
		{[]api.Entry{file(long(55), "")}, o, api.ErrSmall},
		{[]api.Entry{file(long(55), "")}, full, api.ErrSmall},
		{[]api.Entry{much, file(long(55), "")}, full, api.ErrSmall}, // though there are too many volumes ahead of it
		{[]api.Entry{much, file(long(71), "")}, full, api.ErrSmall}, // its header has more, too
		{[]api.Entry{file(long(255), "")}, with(func(o *archive.Options) { o.Size = 301 }), api.OK},
		{[]api.Entry{file(long(255), "")}, with(func(o *archive.Options) { o.Size = 300 }), api.ErrSmall},
		{[]api.Entry{much}, o, api.ErrVolumes},
		{[]api.Entry{much}, with(func(o *archive.Options) { o.Level = 9 }), api.OK},
		{[]api.Entry{a}, full, api.ErrVolumes},
		{[]api.Entry{most}, with(func(o *archive.Options) { o.Size, o.Block = 50000, 9000 }), api.OK},
		{[]api.Entry{most}, with(func(o *archive.Options) { o.Size, o.Block = 4000, 9000 }), api.ErrVolumes},
	} {
		if _, e := heldCreate(t, c.xs, c.o); e != c.want {
			t.Errorf("case %d: %d, not %d", i, e, c.want)
		}
	}
}

func TestAsManyVolumesAsMayBe(t *testing.T) { // P29.1, P29.2: 255 in all, and one more
	for _, k := range []int{0, 1, 100, 200} {
		o := archive.Options{Size: 56, Parity: k, Block: 64}
		most := 56*(255-k-3) - 4 - 40 // the first four bytes, the header, and these fill volumes; what follows takes three more
		for _, c := range []struct {
			bytes int
			want  api.Errno
		}{{most - 56, api.OK}, {most - 55, api.OK}, {most, api.OK}, {most + 1, api.ErrVolumes}, {most + 57, api.ErrVolumes}} {
			xs := []api.Entry{file(long(10), strings.Repeat("x", c.bytes))}
			table, e := heldCreate(t, xs, o)
			if e != c.want {
				t.Fatalf("%d of recovery, %d bytes: %d slots, %d", k, c.bytes, len(table), e)
			}
			if e == api.OK {
				isOf(t, table, archive.Geometry(len(table)-k, o), xs)
			}
		}
	}
}

func TestRecordOfAVolumeFarBehind(t *testing.T) { // P29.1: its number makes the record too long, so that comes ahead of ErrVolumes
	o := archive.Options{Size: 56, Parity: 1, Block: 64}
	var xs []api.Entry
	for i := range 4 {
		xs = append(xs, file(strconv.Itoa(i), strings.Repeat("x", 1<<20)))
	}
	for _, c := range []struct {
		name int
		want api.Errno
	}{{2, api.ErrVolumes}, {3, api.ErrSmall}, {10, api.ErrSmall}} {
		if _, e := heldCreate(t, append(slices.Clone(xs), file(long(c.name), "")), o); e != c.want {
			t.Errorf("a name of %d bytes: %d", c.name, e)
		}
	}
	if _, e := heldCreate(t, append([]api.Entry{file(long(10), "")}, xs...), o); e != api.ErrVolumes {
		t.Errorf("the same name ahead of all: %d", e)
	}
}

func TestAsManyFilesAsMayBe(t *testing.T) { // P29.1, P29.2
	var xs []api.Entry
	for i := range 4096 {
		xs = append(xs, file(strconv.Itoa(i), strconv.Itoa(i*i)))
	}
	o := archive.Options{Size: 9999, Parity: 1, Level: 1, Block: 2000}
	table, g := create(t, xs, o)
	isOf(t, table, g, xs)
	xs[4095].Name = "0"
	if got, e := archive.Create(xs, o); got != nil || e != api.ErrTwice {
		t.Errorf("one twice: %d", e)
	}
	if got, e := archive.Create(append(xs, file("", "")), o); got != nil || e != api.ErrMany {
		t.Errorf("one more: %d", e)
	}
}

func TestExtractErrors(t *testing.T) { // P29.1, P1
	xs := []api.Entry{file("a", "hello"), file("b", "the cat, the cat, the cat")}
	table, g := create(t, xs, archive.Options{Size: 80, Parity: 2, Block: 40})
	n := g.N
	empty, hollow := volume.Clone(table), volume.Clone(table)
	empty[1].B, hollow[1] = nil, api.Slot{There: true, B: []byte{}}
	hollow[2] = api.Slot{}
	row, _ := cut(t, table, g)
	twice := []api.Entry{file("a", "1"), file("b", "2")}
	again, _ := create(t, twice, archive.Options{Size: 300, Block: 40})
	again[0].B[4+31+1+30] = 'a' // in b's header
	for i, c := range []struct {
		table          []api.Slot
		n, most        int
		want, unnamed  api.Errno // the latter of Names
		files, hasName int
	}{
		{table, n, 30, api.OK, api.OK, 2, 2},
		{table, n, math.MaxInt, api.OK, api.OK, 2, 2},
		{table, n, 29, api.ErrFull, api.OK, 0, 2},
		{table, n, 0, api.ErrFull, api.OK, 0, 2},
		{table, n, -1, api.ErrFull, api.OK, 0, 2},
		{table, n, math.MinInt, api.ErrFull, api.OK, 0, 2},
		{table, 0, 30, api.ErrArg, api.ErrArg, 0, 0},
		{table, -1, 30, api.ErrArg, api.ErrArg, 0, 0},
		{table, math.MinInt, 30, api.ErrArg, api.ErrArg, 0, 0},
		{table, len(table) + 1, 30, api.ErrArg, api.ErrArg, 0, 0},
		{table, math.MaxInt, 30, api.ErrArg, api.ErrArg, 0, 0},
		{nil, 1, 30, api.ErrArg, api.ErrArg, 0, 0},
		{nil, 0, 30, api.ErrArg, api.ErrArg, 0, 0},
		{table, len(table), 30, api.ErrGrammar, api.OK, 0, 2}, // what isn't its volume follows
		{table, n - 1, 30, api.ErrGrammar, api.OK, 0, 2},
		{table[1:], n - 1, 30, api.ErrSign, api.ErrSign, 0, 0},
		{table[n:], 1, 30, api.ErrSign, api.ErrSign, 0, 0},
		{slots(row...), len(row), 30, api.ErrGrammar, api.OK, 0, 2},
		{table, 1, 30, api.ErrShort, api.ErrShort, 0, 0}, // it ends within b's bytes
		{without(table, 0), n, 30, api.ErrLost, api.ErrLost, 0, 0},
		{without(table, n-1), n, 30, api.ErrLost, api.ErrLost, 0, 0},
		{without(table, n, n+1), n, 30, api.OK, api.OK, 2, 2}, // recovery isn't asked
		{without(table, 0), n, -1, api.ErrLost, api.ErrLost, 0, 0},
		{without(table, 0), 0, -1, api.ErrArg, api.ErrArg, 0, 0},
		{empty, n, 30, api.ErrShort, api.ErrShort, 0, 0},
		{hollow, n, 30, api.ErrShort, api.ErrShort, 0, 0}, // ahead of one that is lost
		{turned(table, 0, 0), n, 30, api.ErrSign, api.ErrSign, 0, 0},
		{turned(table, 0, 35), n, 30, api.ErrSum, api.OK, 0, 2},
		{turned(table, n-1, 0), n, 30, api.ErrGrammar, api.OK, 0, 2},
		{turned(table, n, 0), n, 30, api.OK, api.OK, 2, 2},
		{again, 1, 30, api.ErrTwice, api.OK, 0, 2},
	} {
		before := volume.Clone(c.table)
		files, e := archive.Extract(c.table, c.n, c.most)
		if e != c.want || len(files) != c.files || e != api.OK && files != nil {
			t.Errorf("case %d: %d files, %d", i, len(files), e)
		}
		names, e := archive.Names(c.table, c.n)
		if e != c.unnamed || len(names) != c.hasName || e != api.OK && names != nil {
			t.Errorf("case %d: %q, %d", i, names, e)
		}
		if !sameTable(c.table, before) {
			t.Errorf("case %d: the table is turned", i)
		}
	}
	if names, _ := archive.Names(again, 1); !slices.Equal(names, []string{"a", "a"}) {
		t.Errorf("%q", names)
	}
}

// wrongGeometries are such, each by one number or several.
var wrongGeometries = []stripe.Geometry{
	{}, {N: 0, K: 2, Size: 80, Block: 40}, {N: -1, K: 3, Size: 80, Block: 40}, {N: 3, K: -1, Size: 80, Block: 40}, {N: 254, K: 2, Size: 80, Block: 40}, {N: 2, K: 2, Size: 4, Block: 4},
	{N: 2, K: 2, Size: maxVolume + 1, Block: 4}, {N: 2, K: 2, Size: 80, Block: 0}, {N: 2, K: 2, Size: 80, Block: -4}, {N: 2, K: 2, Size: 80, Block: maxVolume + 1}, {N: math.MaxInt, K: math.MaxInt, Size: 80, Block: 40},
}

func TestGeometriesThatDoNotFit(t *testing.T) { // P29.1, P1
	table, g := create(t, someFiles(source(), 3), archive.Options{Size: 80, Parity: 2, Block: 40})
	check := func(table []api.Slot, g stripe.Geometry) {
		t.Helper()
		if r, e := heldVerify(t, table, g); r != (archive.Report{}) || e != api.ErrArg {
			t.Errorf("Verify, %+v, %d slots: %+v, %d", g, len(table), r, e)
		}
		if got, e := archive.Repair(table, g); got != nil || e != api.ErrArg {
			t.Errorf("Repair, %+v, %d slots: %d", g, len(table), e)
		}
		if got, e := heldRebuild(t, table, g); got != nil || e != api.ErrArg {
			t.Errorf("Rebuild, %+v, %d slots: %d", g, len(table), e)
		}
	}
	for _, wrong := range wrongGeometries {
		check(nil, wrong)
		check(table, wrong)
		check(make([]api.Slot, max(0, wrong.N&511+wrong.K&511)), wrong)
	}
	check(nil, g)
	check(table[:len(table)-1], g)
	check(append(volume.Clone(table), api.Slot{}), g)
	check(without(table, 0)[:g.N], g) // ahead of ErrLost
	for _, other := range []stripe.Geometry{{N: g.N + 1, K: g.K, Size: 80, Block: 40}, {N: g.N, K: g.K - 1, Size: 80, Block: 40}} {
		check(table, other)
	}
}

func TestVerify(t *testing.T) { // P29.1
	xs := []api.Entry{file("a", "hello"), file("b", strings.Repeat("the cat, ", 20))}
	table, g := create(t, xs, archive.Options{Size: 80, Parity: 3, Block: 11})
	all, n := len(table), g.N
	longer, shorter := volume.Clone(table), volume.Clone(table)
	longer[1].B = append(longer[1].B, make([]byte, 9)...)
	shorter[n+1].B = shorter[n+1].B[:len(shorter[n+1].B)-1]
	empty := volume.Clone(table)
	empty[0].B = nil
	swapped := volume.Clone(table)
	swapped[n], swapped[n+1] = swapped[n+1], swapped[n]
	far := turned(turned(turned(table, 0, 0), 1, 40), 2, 70) // at three blocks
	near := turned(turned(turned(table, 0, 3), 1, 4), 2, 5)  // at one
	noSeals := turned(turned(turned(table, n, 0), n+1, 5), n+2, 21)
	lying, e := seal.Write(seal.Seal{G: g, Sums: sevens(all, stripe.Blocks(g))}, make([]byte, 88))
	if e != api.OK {
		t.Fatal(e)
	}
	lied := volume.Clone(table)
	lied[n].B = lying
	otherwise := volume.Clone(table)
	otherwise[n].B = ofOther(t, stripe.Geometry{N: n, K: 2, Size: 80, Block: 11})
	for i, c := range []struct {
		table []api.Slot
		want  archive.Report
	}{
		{table, archive.Report{There: all, Sealed: true, Whole: true}},
		{without(table, 0), archive.Report{There: all - 1, Worst: 1, Sealed: true}},
		{without(table, all-1), archive.Report{There: all - 1, Worst: 1, Sealed: true}},
		{without(table, 0, n, n+1), archive.Report{There: all - 3, Worst: 3, Sealed: true}},
		{without(table, 0, 1, 2, 3, n), archive.Report{There: all - 5, Worst: 5, Sealed: true}},
		{without(table, n, n+1, n+2), archive.Report{There: n}},
		{make([]api.Slot, all), archive.Report{}},
		{far, archive.Report{There: all, Worst: 1, Sealed: true}},
		{near, archive.Report{There: all, Worst: 3, Sealed: true}},
		{longer, archive.Report{There: all, Worst: 1, Sealed: true}},
		{shorter, archive.Report{There: all, Worst: 1, Sealed: true}},
		{empty, archive.Report{There: all, Worst: 1, Sealed: true}},
		{swapped, archive.Report{There: all, Worst: 2, Sealed: true}},
		{noSeals, archive.Report{There: all}},
		{turned(table, n, 2), archive.Report{There: all, Sealed: true}},                           // its column is as it was, and the next one has a seal
		{turned(table, n, len(table[n].B)-1), archive.Report{There: all, Worst: 1, Sealed: true}}, // its seal is as it was
		{lied, archive.Report{There: all, Worst: all, Sealed: true}},
		{otherwise, archive.Report{There: all}}, // the first seal that stands right is of another geometry
	} {
		if got, e := heldVerify(t, c.table, g); got != c.want || e != api.OK {
			t.Errorf("case %d: %+v, %d, not %+v", i, got, e, c.want)
		}
	}
	for _, other := range []stripe.Geometry{{N: n, K: 3, Size: 81, Block: 11}, {N: n, K: 3, Size: 80, Block: 12}, {N: n + 1, K: 2, Size: 80, Block: 11}, {N: n - 1, K: 4, Size: 80, Block: 11}} {
		if got, e := heldVerify(t, table, other); got != (archive.Report{There: all}) || e != api.OK {
			t.Errorf("%+v: %+v, %d", other, got, e)
		}
	}
}

// sevens is rows of sums that are all 7.
func sevens(rows, each int) [][]uint32 {
	all := make([][]uint32, rows)
	for i := range all {
		all[i] = slices.Repeat([]uint32{7}, each)
	}
	return all
}

// ofOther is a volume of recovery of a geometry.
func ofOther(t *testing.T, g stripe.Geometry) []byte {
	t.Helper()
	table, e := damage.Set(slices.Repeat([][]byte{{1}}, g.N), g.K, g.Size, g.Block)
	if e != api.OK {
		t.Fatal(e)
	}
	return table[g.N].B
}

func TestVerifyWithoutRecovery(t *testing.T) { // P29.1: all that are there, and right, are whole
	g := stripe.Geometry{N: 3, Size: 5, Block: 4}
	row := [][]byte{{1}, {2, 3}, {4, 5, 6, 7, 8}}
	for i, c := range []struct {
		table []api.Slot
		want  archive.Report
	}{
		{slots(row...), archive.Report{There: 3, Whole: true}},
		{slots(row[0], row[1], make([]byte, 6)), archive.Report{There: 3}},
		{slots(row[0], nil, row[2]), archive.Report{There: 3}},
		{without(slots(row...), 1), archive.Report{There: 2}},
	} {
		if got, e := heldVerify(t, c.table, g); got != c.want || e != api.OK {
			t.Errorf("case %d: %+v, %d", i, got, e)
		}
	}
}

func TestVerifyOfTurnedBytes(t *testing.T) { // P29.1: each byte, wherever it stands
	table, g := create(t, []api.Entry{file("a", "hello")}, archive.Options{Size: 60, Parity: 2, Block: 20})
	for i, s := range table {
		for at := range s.B {
			if r, _ := heldVerify(t, turned(table, i, at), g); r.Whole || r.There != len(table) || !r.Sealed || r.Worst > 1 {
				t.Fatalf("slot %d, byte %d: %+v", i, at, r)
			}
		}
	}
}

func TestRepair(t *testing.T) { // P29.1, P29.2: what layer 26's Best answers, of whatever was turned
	r := source()
	for _, o := range some {
		table, g := create(t, someFiles(r, 3), o)
		for range 40 {
			left := volume.Clone(table)
			for range r.IntN(4) {
				i := r.IntN(len(left))
				switch r.IntN(4) {
				case 0:
					left[i] = api.Slot{}
				case 1:
					left[i].B = []byte("whatever it is")
				default:
					left[i].B = slices.Clone(left[i].B)
					for at := range left[i].B {
						if r.IntN(30) == 0 {
							left[i].B[at] ^= 0x5A
						}
					}
				}
			}
			before := volume.Clone(left)
			want, wanted := mend.Best(left, g)
			got, e := archive.Repair(left, g)
			if e != wanted || !sameTable(got, want) || !sameTable(left, before) {
				t.Fatalf("%+v: %d, not %d", o, e, wanted)
			}
			heldVerify(t, left, g)
		}
	}
}

func TestRepairOfForgedOnes(t *testing.T) { // P29.2: one that is lost, and others that aren't as they were
	table, g := create(t, someFiles(source(), 5), archive.Options{Size: 60, Parity: 3, Level: 9, Block: 16})
	for i := range table {
		for j := range table {
			left := without(table, i)
			left[j] = api.Slot{There: true, B: bytes.Repeat([]byte{7}, 1+len(table[j].B)/2)}
			if got, e := archive.Repair(left, g); e != api.OK || !sameTable(got, table) {
				t.Fatalf("without %d, and another %d: %d", i, j, e)
			}
		}
	}
	left := without(table, 0, 1)
	for i := range g.K {
		left[g.N+i].B[4] ^= 1 // no seal is left, but the columns are
	}
	if got, e := archive.Repair(left, g); e != api.OK || !sameTable(got, table) {
		t.Errorf("without seals: %d", e)
	}
}

func TestLostDirectory(t *testing.T) { // P29.3: cut off, or other bytes
	r := source()
	others := []string{"\x00", "P", "PK\x03", "PK\x05\x06 whatever", "PK\x03\x05" + fileSign, sign, "x" + fileSign}
	for _, o := range some {
		for count := range 4 {
			want, g := create(t, someFiles(r, count), o)
			left, at := cut(t, want, g)
			check := func(row [][]byte) {
				t.Helper()
				now := archive.Geometry(len(row), o)
				table := append(slots(row...), make([]api.Slot, o.Parity)...) // recovery isn't asked
				if got, e := heldRebuild(t, table, now); e != api.OK || !sameTable(got, want) {
					t.Fatalf("%+v, %d volumes: %d slots, %d", o, len(row), len(got), e)
				}
			}
			check(left)
			for _, b := range others {
				check(append(slices.Clone(left), []byte(b)))
				last := len(left) - 1
				check(append(slices.Clone(left[:last]), slices.Concat(left[last], []byte(b))))
			}
			row, _ := volume.Row(want, g.N)
			for n := at; n <= volume.Size(row); n += 1 + r.IntN(30) {
				check(cutTo(row, n))
			}
		}
	}
}

// cutTo is the first n bytes of volumes, told one by one.
func cutTo(row [][]byte, n int) [][]byte {
	var left [][]byte
	for _, b := range row {
		if n > 0 {
			left = append(left, slices.Clone(b[:min(n, len(b))]))
		}
		n -= len(b)
	}
	return left
}

func TestRebuildErrors(t *testing.T) { // P29.1, P1: each, ahead of all that are named behind it
	o := archive.Options{Size: 80, Parity: 2, Block: 40}
	table, g := create(t, []api.Entry{file("a", "hello"), file("b", strings.Repeat("x", 100))}, o)
	left, _ := cut(t, table, g)
	geometry := func(n, k, size int) stripe.Geometry { return stripe.Geometry{N: n, K: k, Size: size, Block: 40} }
	again, other := create(t, []api.Entry{file("a", "1"), file("b", "2")}, archive.Options{Size: 300, Block: 40})
	again[0].B[4+31+1+30] = 'a' // in b's header
	empty := volume.Clone(table)
	empty[1].B = nil
	lostBehind := without(empty, 2)
	many, whole := create(t, []api.Entry{file("a", strings.Repeat("x", 252*80-4-31))}, archive.Options{Size: 80, Block: 40})
	rest, _ := cut(t, many, whole)
	full := append(slots(rest...), make([]api.Slot, 3)...)
	for i, c := range []struct {
		table []api.Slot
		g     stripe.Geometry
		want  api.Errno
	}{
		{table, g, api.OK},
		{without(table, g.N, g.N+1), g, api.OK},
		{without(table, 1), g, api.ErrLost},
		{empty, g, api.ErrShort},
		{lostBehind, g, api.ErrShort},
		{without(empty, 0), g, api.ErrLost},
		{turned(table, 0, 0), g, api.ErrSign},
		{without(turned(table, 0, 0), g.N-1), g, api.ErrLost},
		{turned(table, 0, 4), g, api.OK}, // no file is left
		{turned(table, 0, 8), g, api.ErrForm},
		{slots(left[:2]...), geometry(2, 0, 80), api.ErrShort},
		{slots(left...), geometry(len(left), 0, 80), api.OK},
		{slots(left...), geometry(len(left), 0, 79), api.ErrForm},
		{slots(left...), geometry(len(left), 0, 5), api.ErrForm},
		{again, other, api.ErrTwice},
		{again, geometry(1, 0, 5), api.ErrTwice},
		{slots([]byte(sign)), geometry(1, 0, 55), api.ErrSmall},
		{slots([]byte(sign)), geometry(1, 0, 56), api.OK},
		{append(slots([]byte(sign)), make([]api.Slot, 254)...), geometry(1, 254, 55), api.ErrSmall},
		{append(slots([]byte(sign)), make([]api.Slot, 254)...), geometry(1, 254, 101), api.ErrVolumes},
		{append(slots([]byte(sign)), make([]api.Slot, 254)...), geometry(1, 254, 102), api.OK},
		{full, geometry(len(rest), 3, 80), api.ErrVolumes},
		{full[:len(rest)+1], geometry(len(rest), 1, 80), api.ErrVolumes},
		{full[:len(rest)], geometry(len(rest), 0, 80), api.OK},
		{many, whole, api.OK},
	} {
		if got, e := heldRebuild(t, c.table, c.g); e != c.want {
			t.Errorf("case %d: %d slots, %d, not %d", i, len(got), e, c.want)
		}
	}
}

func TestAsManyVolumesAsMayBeRebuilt(t *testing.T) { // P29.1: 255 in all, and one more
	table, g := create(t, []api.Entry{file("a", strings.Repeat("x", 250*80))}, archive.Options{Size: 80, Block: 40})
	left, _ := cut(t, table, g)
	for k := range 256 - len(left) {
		_, e := heldRebuild(t, append(slots(left...), make([]api.Slot, k)...), stripe.Geometry{N: len(left), K: k, Size: 80, Block: 40})
		if (e == api.OK) != (g.N+k <= 255) || e != api.OK && e != api.ErrVolumes {
			t.Errorf("%d volumes, and %d of recovery: %d", g.N, k, e)
		}
	}
}

func TestMemoryIsNew(t *testing.T) { // P2, P29.1: nothing is kept, and nothing shared
	xs := someFiles(source(), 5)
	o := archive.Options{Size: 90, Parity: 2, Block: 30}
	want, g := create(t, xs, o)
	for what, made := range map[string]func(table []api.Slot) []api.Slot{
		"Create": func([]api.Slot) []api.Slot {
			got, _ := archive.Create(xs, o)
			return got
		},
		"Repair": func(table []api.Slot) []api.Slot {
			got, _ := archive.Repair(table, g)
			return got
		},
		"Rebuild": func(table []api.Slot) []api.Slot {
			got, _ := archive.Rebuild(table, g)
			return got
		},
	} {
		table := volume.Clone(want)
		got := made(table)
		for _, s := range table {
			clear(s.B[:cap(s.B)])
		}
		if !sameTable(got, want) {
			t.Errorf("%s: it shares the table's memory", what)
		}
		for i, s := range got {
			b := s.B[:cap(s.B)]
			for j := range b {
				b[j] = byte(i)
			}
		}
		for i, s := range got {
			if len(bytes.Trim(s.B, string([]byte{byte(i)}))) > 0 {
				t.Errorf("%s: volumes share memory", what)
			}
		}
	}
	table := volume.Clone(want)
	files, _ := archive.Extract(table, g.N, plenty)
	names, _ := archive.Names(table, g.N)
	for _, s := range table {
		clear(s.B[:cap(s.B)])
	}
	if !sameFiles(files, xs) || len(names) != 5 || names[4] != xs[4].Name {
		t.Error("files share the table's memory")
	}
}

func TestGreatestVolumes(t *testing.T) { // P29.1, P29.2
	xs := []api.Entry{file("a", "hello")}
	table, g := create(t, xs, archive.Options{Size: maxVolume, Parity: 2, Level: 9, Block: maxVolume})
	left := without(table, 0, 2)
	if r, e := archive.Verify(left, g); r != (archive.Report{There: 1, Worst: 2, Sealed: true}) || e != api.OK {
		t.Errorf("%+v, %d", r, e)
	}
	got, e := archive.Repair(left, g)
	if e != api.OK || !sameTable(got, table) {
		t.Fatalf("%d", e)
	}
	isOf(t, got, g, xs)
	if r, e := archive.Verify(got, g); r != (archive.Report{There: 3, Sealed: true, Whole: true}) || e != api.OK {
		t.Errorf("%+v, %d", r, e)
	}
}

func TestGreatFiles(t *testing.T) { // P29.2
	r := source()
	var xs []api.Entry
	for i, n := range []int{1 << 20, 1<<20 - 1, 300000, 65536, 0} {
		b := make([]byte, n)
		for j := range b {
			b[j] = byte(r.IntN(1 + 60*i))
		}
		xs = append(xs, file("great/"+strconv.Itoa(i), string(b)))
	}
	o := archive.Options{Size: 70000, Parity: 4, Level: 6, Block: 4096}
	table, g := create(t, xs, o)
	left := without(table, 0, g.N-1, g.N)
	left[1].B[5] ^= 1
	got, e := archive.Repair(left, g)
	if e != api.OK || !sameTable(got, table) {
		t.Fatalf("%d", e)
	}
	isOf(t, got, g, xs)
	row, _ := cut(t, table, g)
	if again, e := archive.Rebuild(append(slots(row...), make([]api.Slot, 4)...), archive.Geometry(len(row), o)); e != api.OK || !sameTable(again, table) {
		t.Errorf("%d", e)
	}
}
