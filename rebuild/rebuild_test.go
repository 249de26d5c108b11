package rebuild_test

import (
	"bytes"
	"math"
	"slices"
	"strconv"
	"strings"
	"testing"
	"time"

	"footlocker/api"
	"footlocker/central"
	"footlocker/extract"
	"footlocker/local"
	"footlocker/rebuild"
	"footlocker/span"
)

func TestTheExample(t *testing.T) { // P28.1, P28.2, P28.3: of nothing
	want := archive(t, nil, 200, 0)
	if len(want) != 1 || len(want[0]) != 102 {
		t.Fatalf("%q", want)
	}
	isOf(t, want, nil)
	for n := 4; n <= 102; n++ {
		if got, e := held(t, [][]byte{want[0][:n]}, 200); e != api.OK || !slices.Equal(texts(got), texts(want)) {
			t.Errorf("%d bytes: %q, %d", n, got, e)
		}
	}
}

// sizes are volumes that just fit the greatest of pieces, and greater ones.
var sizes = []int{56, 57, 60, 75, 76, 77, 97, 98, 99, 101, 102, 103, 150, 300, 2000, 1 << 24}

func TestLaidAndClosed(t *testing.T) { // P28.1, P28.2
	r := source()
	for _, size := range sizes {
		for _, level := range []int{math.MinInt, -1, 0, 1, 6, 9, 10, math.MaxInt} {
			for count := range 7 {
				xs := someFiles(r, count)
				p := newPair(t, size)
				var recs []central.Record
				for _, x := range xs {
					c, e := p.lay(x, level)
					if e != api.OK {
						t.Fatalf("volumes of %d: %d", size, e)
					}
					recs = append(recs, c)
				}
				if e := p.close(recs); e != api.OK {
					t.Fatalf("volumes of %d: %d", size, e)
				}
				isOf(t, p.w.Row(), xs)
			}
		}
	}
}

func TestEachLength(t *testing.T) { // P28.2: wherever volumes end
	for size := 56; size < 120; size++ {
		for n := range 2*size + 1 {
			xs := []api.Entry{{Name: "a", Time: day, Data: []byte(strings.Repeat("x", n))}, {Name: "b", Time: day}}
			row := archive(t, xs, size, 0)
			isOf(t, row, xs)
			if got, e := held(t, row, size); e != api.OK || !slices.Equal(texts(got), texts(row)) {
				t.Fatalf("volumes of %d, %d bytes: %d", size, n, e)
			}
		}
	}
}

func TestLay(t *testing.T) { // P28.1
	p := newPair(t, 40)
	c, e := p.lay(api.Entry{Name: "a", Time: day, Data: []byte("hello")}, 0)
	want := central.Record{Header: local.Header{Time: day, Sum: 0x3610A686, Packed: 5, Size: 5, Name: "a"}, Offset: 4}
	if c != want || e != api.OK {
		t.Errorf("%+v, %d", c, e)
	}
	c, e = p.lay(api.Entry{Name: "bc", Time: day, Data: []byte(strings.Repeat("hello", 9))}, 9)
	if c.Method != 8 || c.Packed >= 45 || c.Size != 45 || c.Disk != 1 || c.Offset != 0 || e != api.OK {
		t.Errorf("%+v, %d", c, e)
	}
	c, e = p.lay(api.Entry{Name: "d", Time: day}, 9)
	if c.Method != 0 || c.Packed != 0 || c.Size != 0 || c.Sum != 0 || e != api.OK {
		t.Errorf("%+v, %d", c, e)
	}
}

func TestLayErrors(t *testing.T) { // P28.1, P1: nothing is written then
	long := strings.Repeat("n", 255)
	for i, c := range []struct {
		size int
		x    api.Entry
		want api.Errno
	}{
		{31, api.Entry{Name: "a", Time: day, Data: []byte("abc")}, api.OK},
		{30, api.Entry{Name: "a", Time: day, Data: []byte("abc")}, api.ErrSmall},
		{5, api.Entry{Name: "a", Time: day}, api.ErrSmall},
		{285, api.Entry{Name: long, Time: day}, api.OK},
		{284, api.Entry{Name: long, Time: day}, api.ErrSmall},
		{300, api.Entry{Name: long + "n", Time: day}, api.ErrName},
		{300, api.Entry{Name: "", Time: day}, api.ErrName},
		{300, api.Entry{Name: "a/../b", Time: day}, api.ErrName},
		{300, api.Entry{Name: "a"}, api.ErrTime},
		{300, api.Entry{Name: "a", Time: api.Stamp{Year: 2026, Month: 2, Day: 29}}, api.ErrTime},
		{300, api.Entry{}, api.ErrTime},                             // ahead of its name
		{5, api.Entry{Name: "a", Data: []byte("abc")}, api.ErrTime}, // ahead of its size
		{5, api.Entry{Name: "a\\b", Time: day}, api.ErrName},
	} {
		for _, level := range []int{0, 9} {
			p := newPair(t, c.size)
			if _, e := p.lay(c.x, level); e != c.want {
				t.Errorf("case %d: %d", i, e)
			}
			if row := texts(p.w.Row()); c.want != api.OK && !slices.Equal(row, []string{sign}) {
				t.Errorf("case %d: %q is written", i, row)
			}
		}
	}
}

// recordOf is a record of an empty file of a name.
func recordOf(name string) central.Record {
	return central.Record{Header: local.Header{Time: day, Name: name}, Offset: 4}
}

func TestCloseErrors(t *testing.T) { // P28.1, P1: what was written stays open
	ok, long := recordOf("a"), recordOf(strings.Repeat("n", 200))
	wrong := func(turn func(c *central.Record)) central.Record {
		c := ok
		turn(&c)
		return c
	}
	method := wrong(func(c *central.Record) { c.Method = 7 })
	stamp := wrong(func(c *central.Record) { c.Time.Month = 13 })
	name := wrong(func(c *central.Record) { c.Name = "a/" })
	all := wrong(func(c *central.Record) { c.Method, c.Time, c.Name = -1, api.Stamp{}, "" })
	great := wrong(func(c *central.Record) { c.Disk, c.Offset = 65535, 1<<32-1 })
	for i, c := range []struct {
		size int
		recs []central.Record
		want api.Errno
	}{
		{56, nil, api.OK},
		{55, nil, api.ErrSmall},
		{5, nil, api.ErrSmall},
		{56, []central.Record{ok, ok}, api.OK}, // whatever they are
		{55, []central.Record{ok}, api.ErrSmall},
		{46, []central.Record{ok}, api.ErrSmall},
		{246, []central.Record{ok, long, ok}, api.OK},
		{245, []central.Record{ok, long, ok}, api.ErrSmall},
		{245, []central.Record{ok, ok, ok, ok, long}, api.ErrSmall},
		{63, []central.Record{great}, api.OK},
		{62, []central.Record{great}, api.ErrSmall},
		{100, []central.Record{method}, api.ErrMethod},
		{100, []central.Record{stamp}, api.ErrTime},
		{100, []central.Record{name}, api.ErrName},
		{100, []central.Record{all}, api.ErrMethod},
		{100, []central.Record{ok, ok, name, method}, api.ErrName},
		{100, []central.Record{stamp, ok, name, method}, api.ErrTime},
		{100, []central.Record{long, name}, api.ErrName}, // named ahead of ErrSmall
		{20, []central.Record{ok, stamp}, api.ErrTime},
		{math.MaxInt16, []central.Record{{}}, api.ErrTime},
	} {
		p := newPair(t, c.size)
		file := api.Entry{Name: "z", Time: day, Data: []byte("bytes")}
		var recs []central.Record
		if rec, e := p.lay(file, 0); e == api.OK {
			recs = append(recs, rec)
		}
		before := texts(p.w.Row())
		if e := p.close(c.recs); e != c.want {
			t.Errorf("case %d: %d", i, e)
		}
		if c.want != api.OK && !slices.Equal(texts(p.w.Row()), before) {
			t.Errorf("case %d: %q, not %q", i, p.w.Row(), before)
		}
		if c.want != api.OK && c.size >= 56 { // it can still be laid in, and closed
			more := api.Entry{Name: "y", Time: day, Data: []byte("and more")}
			rec, _ := p.lay(more, 0)
			p.close(append(recs, rec))
			isOf(t, p.w.Row(), []api.Entry{file, more})
		}
	}
}

func TestCloseAnyRecords(t *testing.T) { // P28.1: in any writer, they needn't be of what was laid there
	r := source()
	for range 3000 {
		size := 5 + r.IntN(200)
		p := newPair(t, size)
		for range r.IntN(4) {
			b := strings.Repeat("#", r.IntN(2*size))
			p.w.Data([]byte(b))
			for _, v := range b {
				p.m.record(string(v))
			}
		}
		var recs []central.Record
		for range r.IntN(6) {
			c := recordOf(strings.Repeat("n", 1+r.IntN(30)))
			c.Disk, c.Offset = r.Uint32()>>r.IntN(32), r.Uint64()>>r.IntN(64)
			c.Size, c.Packed = r.Uint64()>>r.IntN(64), r.Uint64()>>r.IntN(64)
			recs = append(recs, c)
		}
		if e := p.close(recs); e == api.OK {
			p.close(recs) // once more, behind that
		}
	}
}

func TestWriterThatWasNotMade(t *testing.T) { // P1
	var w span.Writer
	if c, e := rebuild.Lay(&w, api.Entry{Name: "a", Time: day}, 1); c != (central.Record{}) || e != api.ErrSmall {
		t.Errorf("Lay: %+v, %d", c, e)
	}
	if e := rebuild.Close(&w, nil); e != api.ErrSmall {
		t.Errorf("Close: %d", e)
	}
	if row := w.Row(); len(row) != 0 {
		t.Errorf("%q", row)
	}
}

func TestCut(t *testing.T) { // P28.1
	for _, row := range [][][]byte{
		nil, {nil}, {{}, nil, {}}, volumes("ab", "cd"), volumes("abc"), volumes("", "a", "", "", "bc", ""), volumes("abcdef", "g", "hi"),
	} {
		for _, n := range []int{math.MinInt, -5, -1, 0, 1, 2, 3, 4, 5, 6, 7, 8, 9, 10, 99, math.MaxInt} {
			before := texts(row)
			got := rebuild.Cut(row, n)
			if !slices.Equal(texts(got), cut(row, n)) {
				t.Errorf("%q, %d: %q, not %q", row, n, got, cut(row, n))
			}
			for _, b := range got {
				clear(b[:cap(b)])
			}
			if !slices.Equal(texts(row), before) {
				t.Errorf("%q, %d: it shares memory", row, n)
			}
		}
	}
	whole := volumes("abc", "de")
	if got := rebuild.Cut([][]byte{whole[0][:2], whole[1]}, 99); !slices.Equal(texts(got), []string{"ab", "de"}) {
		t.Errorf("%q", got)
	}
}

func TestRebuildsWhatIsLost(t *testing.T) { // P28.3: cut off, or other bytes
	r := source()
	others := []string{"", "\x00", "P", "PK\x03", "PK\x01\x02", "PK\x05\x06", "PK\x03\x05" + fileSign, sign, "x" + fileSign, strings.Repeat("#", 3000)}
	for _, size := range sizes {
		for _, level := range []int{0, 9} {
			for count := range 5 {
				xs := someFiles(r, count)
				want := archive(t, xs, size, level)
				_, at, _ := extract.Walk(want)
				all := len(slices.Concat(want...))
				for n := at; n <= all; n += 1 + r.IntN(20) {
					row := rebuild.Cut(want, n)
					if got, e := held(t, row, size); e != api.OK || !slices.Equal(texts(got), texts(want)) {
						t.Fatalf("volumes of %d, %d bytes of %d: %q, %d, not %q", size, n, all, got, e, want)
					}
				}
				for _, b := range others {
					for _, row := range [][][]byte{append(rebuild.Cut(want, at), []byte(b)), append(rebuild.Cut(want, at), nil, []byte(b), nil)} {
						if got, e := held(t, row, size); e != api.OK || !slices.Equal(texts(got), texts(want)) {
							t.Fatalf("volumes of %d, and %q: %q, %d, not %q", size, b, got, e, want)
						}
					}
				}
				if at > 4 {
					if _, e := held(t, rebuild.Cut(want, at-1), size); e != api.ErrShort {
						t.Fatalf("volumes of %d, a file cut: %d", size, e)
					}
				}
			}
		}
	}
}

// mayEnd tells whether a volume may end ahead of a byte: not within the first four, nor a header.
func mayEnd(parts []extract.Part, at int) bool {
	return at >= 4 && !slices.ContainsFunc(parts, func(p extract.Part) bool {
		return at > p.At && at < p.At+local.Size(p.Head)
	})
}

func TestRebuildOfAnyVolumes(t *testing.T) { // P28.1, P28.3: they needn't be a writer's, and may be empty
	r := source()
	for i := range 1000 {
		xs := someFiles(r, r.IntN(5))
		b := slices.Concat(archive(t, xs, 1<<24, r.IntN(2))...)
		parts, at, _ := extract.Walk([][]byte{b})
		row := [][]byte{nil}
		for j, v := range b[:at] {
			if mayEnd(parts, j) && r.IntN(1+i%40) == 0 {
				row = append(row, make([][]byte, 1+r.IntN(3)/2)...)
			}
			row[len(row)-1] = append(row[len(row)-1], v)
		}
		for _, size := range []int{60, 99, 100, 250, 1 << 20} {
			got, e := held(t, row, size)
			if e == api.OK {
				isOf(t, got, xs)
			}
			if size == 1<<20 && e != api.OK {
				t.Fatalf("%q: %d", row, e)
			}
		}
	}
}

func TestRebuildWithEmptyVolumes(t *testing.T) { // P28.3: they are passed over, and let go
	xs := someFiles(source(), 3)
	want := archive(t, xs, 100, 0)
	_, at, _ := extract.Walk(want)
	left := rebuild.Cut(want, at)
	for disk := range len(left) + 1 {
		for count := range 4 {
			row := slices.Insert(slices.Clone(left), disk, make([][]byte, count)...)
			if got, e := held(t, row, 100); e != api.OK || !slices.Equal(texts(got), texts(want)) {
				t.Errorf("%d empty ones at %d: %q, %d, not %q", count, disk, got, e, want)
			}
		}
	}
}

func TestRebuildErrors(t *testing.T) { // P28.1, P1
	full := api.Entry{Name: "f", Time: day, Data: make([]byte, 400)}
	row := archive(t, append(someFiles(source(), 3), full), 150, 0)
	_, at, _ := extract.Walk(row)
	left := rebuild.Cut(row, at)
	a := api.Entry{Name: "a", Time: day, Data: []byte("abc")}
	b := api.Entry{Name: "b", Time: day, Data: []byte("abc")}
	long := api.Entry{Name: strings.Repeat("n", 100), Time: day}
	twice := archive(t, []api.Entry{a, b, a}, 150, 0)
	_, at, _ = extract.Walk(twice)
	short := rebuild.Cut(twice, at-1)
	for i, c := range []struct {
		row  [][]byte
		size int
		want api.Errno
	}{
		{row, 150, api.OK},
		{row, 149, api.ErrForm},
		{row, 1 << 24, api.OK},
		{row, 1<<24 + 1, api.ErrArg},
		{row, 4, api.ErrArg},
		{row, -1, api.ErrArg},
		{row, math.MaxInt, api.ErrArg},
		{row, 5, api.ErrForm},
		{left, 150, api.OK},
		{append(slices.Clone(left), make([]byte, 151)), 150, api.OK}, // it's let go
		{nil, 150, api.ErrSign},
		{nil, 4, api.ErrSign},
		{volumes("PK"), 60, api.ErrSign},
		{volumes("PK", "\x07\x08"), 60, api.ErrSign},
		{volumes(sign), 56, api.OK},
		{volumes(sign), 55, api.ErrSmall},
		{volumes(sign), 5, api.ErrSmall},
		{volumes(sign), 4, api.ErrArg},
		{volumes(sign + fileSign), 4, api.ErrShort},
		{twice, 150, api.ErrTwice},
		{twice, 4, api.ErrTwice},
		{twice, 20, api.ErrTwice},
		{short, 150, api.ErrShort},
		{short, 4, api.ErrShort},
		{archive(t, []api.Entry{long}, 146, 0), 146, api.OK},
		{archive(t, []api.Entry{long}, 146, 0), 145, api.ErrSmall}, // its header has 130
		{archive(t, []api.Entry{long}, 146, 0), 129, api.ErrForm},
	} {
		if got, e := held(t, c.row, c.size); e != c.want {
			t.Errorf("case %d: %q, %d", i, got, e)
		}
	}
}

func TestRebuildDoesNotUnpack(t *testing.T) { // P28.1: what files are doesn't matter, just where they end
	h := local.Header{Method: 8, Time: day, Sum: 1, Packed: 3, Size: 1 << 40, Name: "a"}
	head, _ := local.Write(h)
	got, e := held(t, volumes(sign+string(head)+"abc"), 300)
	if e != api.OK {
		t.Fatalf("%d", e)
	}
	parts, at, e := extract.Walk(got)
	if len(parts) != 1 || parts[0].Head != h || e != api.OK {
		t.Errorf("%+v, %d", parts, e)
	}
	if b, ok := extract.Tail(got, parts, at); !ok || string(b) != string(got[0][at:]) {
		t.Errorf("%q, %v", b, ok)
	}
}

func TestMemoryIsNew(t *testing.T) { // P2, P28.1: nothing is kept, and nothing shared
	want := archive(t, someFiles(source(), 5), 120, 0)
	row := rebuild.Cut(want, math.MaxInt)
	got, _ := rebuild.Rebuild(row, 120)
	for _, b := range row {
		clear(b[:cap(b)])
	}
	if !slices.Equal(texts(got), texts(want)) {
		t.Error("what is rebuilt shares the row's memory")
	}
	for _, all := range [][][]byte{got, rebuild.Cut(want, math.MaxInt)} {
		for i, b := range all {
			b = b[:cap(b)]
			for j := range b {
				b[j] = byte(i)
			}
		}
		for i, b := range all {
			if len(bytes.Trim(b, string(rune(i)))) > 0 {
				t.Error("volumes share memory")
			}
		}
	}
}

func TestGoesOnInTheWriter(t *testing.T) { // P28.2: what is laid by one that goes on
	xs := someFiles(source(), 4)
	p := newPair(t, 90)
	var recs []central.Record
	for _, x := range xs {
		c, _ := p.lay(x, 1)
		recs = append(recs, c)
		p.w, _ = span.Go(90, p.w.Row())
	}
	p.close(recs)
	isOf(t, p.w.Row(), xs)
}

func TestManyFilesInManyVolumes(t *testing.T) { // P1, P28.2, P28.3: more than the end tells, and the row is gone through once
	const many = 70000
	began := time.Now()
	var xs []api.Entry
	for i := range many {
		xs = append(xs, api.Entry{Name: strconv.Itoa(i), Time: day})
	}
	row := archive(t, xs, 60, 0)
	if len(row) < 2*many {
		t.Fatalf("%d volumes", len(row))
	}
	isOf(t, row, xs)
	_, at, _ := extract.Walk(row)
	got, e := rebuild.Rebuild(rebuild.Cut(row, at), 60)
	if e != api.OK || !slices.EqualFunc(got, row, bytes.Equal) {
		t.Errorf("%d volumes, not %d, %d", len(got), len(row), e)
	}
	if took := time.Since(began); took > 30*time.Second {
		t.Errorf("it took %v", took)
	}
}
