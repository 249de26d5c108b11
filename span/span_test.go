package span_test

import (
	"bytes"
	"math"
	"slices"
	"strings"
	"testing"

	"footlocker/api"
	"footlocker/span"
)

// made is a writer that must be.
func made(t *testing.T, size int) *span.Writer {
	t.Helper()
	w, e := span.New(size)
	if e != api.OK || w == nil {
		t.Fatalf("of %d bytes: %d", size, e)
	}
	return w
}

// holds checks that a writer has these volumes.
func holds(t *testing.T, w *span.Writer, want ...string) {
	t.Helper()
	if got := texts(w.Row()); !slices.Equal(got, want) {
		t.Fatalf("%q, not %q", got, want)
	}
}

func TestTheExample(t *testing.T) { // P22.1
	w := made(t, 6)
	if p, e := w.Record([]byte("abc")); p != (api.Place{Disk: 1, At: 0}) || e != api.OK {
		t.Errorf("%+v, %d", p, e)
	}
	holds(t, w, first, "abc")
}

// wrongSizes are those of no volume.
var wrongSizes = []int{math.MinInt, -1, 0, 1, 3, 4, 1<<24 + 1, 1 << 25, math.MaxInt32, math.MaxInt}

func TestNew(t *testing.T) { // P22.1
	for _, size := range wrongSizes {
		if w, e := span.New(size); w != nil || e != api.ErrArg {
			t.Errorf("of %d bytes: %v, %d", size, w != nil, e)
		}
	}
	for _, size := range []int{5, 6, 7, 100, 1<<24 - 1, 1 << 24} {
		w := made(t, size)
		holds(t, w, "\x50\x4B\x07\x08")
		if p := w.Next(1); p != (api.Place{Disk: 0, At: 4}) {
			t.Errorf("of %d bytes: %+v", size, p)
		}
	}
}

func TestGo(t *testing.T) { // P22.1, P1
	five, six := []byte("abcde"), []byte("abcdef")
	for _, c := range []struct {
		size int
		row  [][]byte
		want api.Errno
	}{
		{5, [][]byte{five}, api.OK},
		{6, [][]byte{five, six, []byte("a")}, api.OK},
		{1 << 24, [][]byte{[]byte("a")}, api.OK},
		{5, nil, api.ErrForm},
		{5, [][]byte{}, api.ErrForm},
		{5, [][]byte{nil}, api.ErrForm},
		{5, [][]byte{{}}, api.ErrForm},
		{5, [][]byte{five, {}}, api.ErrForm},
		{5, [][]byte{nil, five}, api.ErrForm},
		{5, [][]byte{five, nil, five}, api.ErrForm},
		{5, [][]byte{six}, api.ErrForm},
		{5, [][]byte{five, six}, api.ErrForm},
		{5, [][]byte{six, five}, api.ErrForm},
		{4, [][]byte{[]byte("a")}, api.ErrArg},
		{1<<24 + 1, [][]byte{five}, api.ErrArg},
		{4, nil, api.ErrArg},
		{-1, [][]byte{{}, six}, api.ErrArg},
		{math.MaxInt, [][]byte{nil}, api.ErrArg},
	} {
		w, e := span.Go(c.size, c.row)
		if e != c.want || (w != nil) != (c.want == api.OK) {
			t.Fatalf("%d, %q: %v, %d", c.size, c.row, w != nil, e)
		}
		if e == api.OK {
			holds(t, w, texts(c.row)...)
		}
	}
	for _, size := range wrongSizes {
		if w, e := span.Go(size, nil); w != nil || e != api.ErrArg {
			t.Errorf("of %d bytes: %v, %d", size, w != nil, e)
		}
	}
}

func TestGoesOnBehindAnyVolumes(t *testing.T) { // P22.1: they needn't be a writer's
	for size := 5; size < 8; size++ {
		for a := 1; a <= size; a++ {
			for b := 1; b <= size; b++ {
				for _, do := range calls(size) {
					p := newPair(size)
					p.m.row = []string{strings.Repeat("x", a), strings.Repeat("y", b)}
					p.all = strings.Join(p.m.row, "")
					w, e := span.Go(size, volumes(p.m.row))
					if e != api.OK {
						t.Fatalf("%d, %d, %d: %d", size, a, b, e)
					}
					p.w = w
					p.check()
					do(p)
					p.check()
					if p.wrong {
						t.Fatalf("behind %d and %d: %s", a, b, p.told)
					}
				}
			}
		}
	}
}

func TestOrdersOfThreeCalls(t *testing.T) { // P22.1, P22.2
	for size := 5; size < 9; size++ {
		all := calls(size)
		for _, a := range all {
			for _, b := range all {
				for _, c := range all {
					follow(t, size, a, b, c)
				}
			}
		}
	}
}

func TestLongOrders(t *testing.T) { // P22.1, P22.2
	r := source()
	for _, size := range []int{5, 6, 7, 10, 30} {
		all := calls(size)
		for range 60 {
			order := make([]call, 60)
			for i := range order {
				order[i] = all[r.IntN(len(all))]
			}
			follow(t, size, order...)
		}
	}
}

func TestGreatVolumes(t *testing.T) { // P22.1, P22.2
	r := source()
	for range 10 {
		size := 250 + r.IntN(2000)
		p := newPair(size)
		for range 40 {
			n := r.IntN(size + 2)
			if r.IntN(2) == 0 {
				p.record(n)
			} else {
				p.data(n)
			}
		}
		p.check()
		if p.wrong {
			t.Fatal(p.told)
		}
	}
}

func TestGreatestVolumes(t *testing.T) { // P22.1, P22.2
	w := made(t, api.MaxVolume)
	all := make([]byte, api.MaxVolume+1)
	for i := range all {
		all[i] = byte(i * i >> 8)
	}
	if p, e := w.Record(all); p != (api.Place{}) || e != api.ErrSmall {
		t.Fatalf("%+v, %d", p, e)
	}
	if p, e := w.Record(all[1:]); p != (api.Place{Disk: 1, At: 0}) || e != api.OK {
		t.Fatalf("%+v, %d", p, e)
	}
	if p := w.Data(all); p != (api.Place{Disk: 2, At: 0}) {
		t.Fatalf("%+v", p)
	}
	row := w.Row()
	if len(row) != 4 || string(row[0]) != first || !bytes.Equal(row[1], all[1:]) || !bytes.Equal(append(row[2], row[3]...), all) || len(row[3]) != 1 {
		t.Fatalf("%d volumes", len(row))
	}
}

func TestRecords(t *testing.T) { // P22.1, P22.2
	for _, c := range []struct {
		ahead int // how many bytes of data stand ahead of it
		b     string
		p     api.Place
		e     api.Errno
	}{
		{0, "a", api.Place{Disk: 0, At: 4}, api.OK},
		{0, "ab", api.Place{Disk: 0, At: 4}, api.OK},
		{0, "abc", api.Place{Disk: 1, At: 0}, api.OK},
		{1, "a", api.Place{Disk: 0, At: 5}, api.OK},
		{1, "ab", api.Place{Disk: 1, At: 0}, api.OK},
		{2, "a", api.Place{Disk: 1, At: 0}, api.OK},
		{3, "abcde", api.Place{Disk: 1, At: 1}, api.OK},
		{3, "abcdef", api.Place{Disk: 2, At: 0}, api.OK},
		{8, "abcdef", api.Place{Disk: 2, At: 0}, api.OK},
		{0, "abcdefg", api.Place{}, api.ErrSmall},
		{3, "abcdefg", api.Place{}, api.ErrSmall},
		{0, "", api.Place{}, api.ErrSmall},
		{2, "", api.Place{}, api.ErrSmall},
	} {
		w := made(t, 6)
		w.Data([]byte("12345678")[:c.ahead])
		was := texts(w.Row())
		if p, e := w.Record([]byte(c.b)); p != c.p || e != c.e {
			t.Errorf("%d, %q: %+v, %d", c.ahead, c.b, p, e)
		}
		if c.e != api.OK {
			holds(t, w, was...) // nothing is written
		}
	}
	if p, e := made(t, 6).Record(nil); p != (api.Place{}) || e != api.ErrSmall {
		t.Errorf("%+v, %d", p, e)
	}
}

func TestData(t *testing.T) { // P22.1, P22.2
	for _, c := range []struct {
		b, more string
		p, next api.Place
		want    []string
	}{
		{"", "", api.Place{Disk: 0, At: 4}, api.Place{Disk: 0, At: 4}, []string{first}},
		{"a", "", api.Place{Disk: 0, At: 4}, api.Place{Disk: 0, At: 5}, []string{first + "a"}},
		{"ab", "", api.Place{Disk: 0, At: 4}, api.Place{Disk: 1, At: 0}, []string{first + "ab"}},
		{"ab", "c", api.Place{Disk: 0, At: 4}, api.Place{Disk: 1, At: 0}, []string{first + "ab", "c"}},
		{"abc", "d", api.Place{Disk: 0, At: 4}, api.Place{Disk: 1, At: 1}, []string{first + "ab", "cd"}},
		{"abcdefgh", "", api.Place{Disk: 0, At: 4}, api.Place{Disk: 2, At: 0}, []string{first + "ab", "cdefgh"}},
		{"abcdefghi", "jklmnopqrst", api.Place{Disk: 0, At: 4}, api.Place{Disk: 2, At: 1}, []string{first + "ab", "cdefgh", "ijklmn", "opqrst"}},
	} {
		w := made(t, 6)
		if p := w.Data([]byte(c.b)); p != c.p {
			t.Errorf("%q: %+v", c.b, p)
		}
		if p := w.Data([]byte(c.more)); p != c.next {
			t.Errorf("%q, %q: %+v", c.b, c.more, p)
		}
		holds(t, w, c.want...)
	}
}

func TestNextWritesNothing(t *testing.T) { // P22.1
	w := made(t, 6)
	for n := -3; n < 10; n++ {
		w.Next(n)
		w.Data(nil)
	}
	holds(t, w, first)
}

func TestClonesOfClones(t *testing.T) { // P22.1
	one := made(t, 6)
	one.Data([]byte("abcde"))
	two := one.Clone()
	three := two.Clone()
	one.Data([]byte("123456"))
	two.Record([]byte("xy"))
	three.Data([]byte("z"))
	holds(t, one, first+"ab", "cde123", "456")
	holds(t, two, first+"ab", "cdexy")
	holds(t, three, first+"ab", "cdez")
}

func TestAClonesSize(t *testing.T) { // P22.1
	w := made(t, 6).Clone()
	if p, e := w.Record([]byte("abcdefg")); p != (api.Place{}) || e != api.ErrSmall {
		t.Errorf("%+v, %d", p, e)
	}
	w.Data([]byte("abcdefghi"))
	holds(t, w, first+"ab", "cdefgh", "i")
}

func TestWritersAreTheirOwn(t *testing.T) { // P2
	a, b := made(t, 6), made(t, 6)
	a.Data([]byte("ab"))
	b.Data([]byte("xyz"))
	holds(t, a, first+"ab")
	holds(t, b, first+"xy", "z")
}

func TestWhatIsHandedInIsNeitherTurnedNorKept(t *testing.T) { // P2, Rules
	memory := []byte("abcdXefYgh")
	given := [][]byte{memory[0:4:5], memory[5:7:8], nil, nil}
	w, e := span.Go(6, given[:2])
	if e != api.OK {
		t.Fatal(e)
	}
	w.Data(memory[8:9])
	w.Record(memory[8:10])
	w.Data([]byte("12345678"))
	if string(memory) != "abcdXefYgh" || given[2] != nil || given[3] != nil {
		t.Errorf("%q, %q", memory, given)
	}
	clear(memory)
	clear(given)
	holds(t, w, "abcd", "efggh1", "234567", "8")
}

func TestAnswersAreNew(t *testing.T) { // Rules
	b := []byte("same")
	w, _ := span.Go(6, [][]byte{b, b})
	w.Data([]byte("12345"))
	row, other := w.Row(), w.Row()
	for i := range row {
		whole := row[i][:cap(row[i])] // spare room too
		for j := range whole {
			whole[j] = '#'
		}
		holds(t, w, "same", "same12", "345")
		if !slices.Equal(texts(other), []string{"same", "same12", "345"}) || i == 0 && string(row[1]) != "same12" {
			t.Errorf("%q, %q", row, other)
		}
	}
	clear(row[:cap(row)])
	w.Data([]byte("6789"))
	holds(t, w, "same", "same12", "345678", "9")
	if string(b) != "same" || !slices.Equal(texts(other), []string{"same", "same12", "345"}) {
		t.Errorf("%q, %q", b, other)
	}
}

func TestManyRecords(t *testing.T) { // section 'Promises': they take no more steps than there are bytes, or so
	w := made(t, api.MaxVolume)
	for i := range 1 << 20 {
		if p, e := w.Record([]byte{byte(i)}); p != (api.Place{Disk: 0, At: 4 + i}) || e != api.OK {
			t.Fatalf("%d: %+v, %d", i, p, e)
		}
	}
	w = made(t, 5)
	if p := w.Data(make([]byte, 1<<20)); p != (api.Place{Disk: 0, At: 4}) {
		t.Fatalf("%+v", p)
	}
	for i := range 1 << 18 {
		w.Next(i)
		w.Record([]byte("abcde"))
	}
	if row := w.Row(); len(row) != 1+(1<<20-1)/5+1<<18 {
		t.Errorf("%d volumes", len(row))
	}
}

func TestAWriterThatWasNeverMade(t *testing.T) { // P1: it has no volumes, and room for nothing, but no call panics, and all end
	var w span.Writer
	for _, n := range []int{math.MinInt, -1, 0, 1, 5, math.MaxInt} {
		if p := w.Next(n); p != (api.Place{}) {
			t.Errorf("%d: %+v", n, p)
		}
	}
	for _, b := range []string{"", "a", "abcdef"} {
		if p, e := w.Record([]byte(b)); p != (api.Place{}) || e != api.ErrSmall {
			t.Errorf("%q: %+v, %d", b, p, e)
		}
		if p := w.Data([]byte(b)); p != (api.Place{}) {
			t.Errorf("%q: %+v", b, p)
		}
	}
	if len(w.Row()) != 0 || len(w.Clone().Row()) != 0 {
		t.Errorf("%q", w.Row())
	}
}
