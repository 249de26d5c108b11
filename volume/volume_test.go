package volume_test

import (
	"bytes"
	"math"
	"slices"
	"testing"

	"footlocker/api"
	"footlocker/volume"
)

func TestTheExample(t *testing.T) { // P21.1
	row := [][]byte{[]byte("ab"), []byte("c")}
	if p, ok := volume.Place(row, 2); p != (api.Place{Disk: 1, At: 0}) || !ok {
		t.Errorf("%+v, %v", p, ok)
	}
}

func TestSize(t *testing.T) { // P21.1
	for _, row := range rows() {
		if n := volume.Size(row); n != len(modelOf(row).b) {
			t.Errorf("%v: %d", row, n)
		}
	}
	if n := volume.Size(nil); n != 0 {
		t.Errorf("of nothing: %d", n)
	}
}

func TestPlace(t *testing.T) { // P21.1, P21.2
	for _, row := range rows() {
		m := modelOf(row)
		for _, at := range about(len(m.b)) {
			want, wanted := m.place(at)
			if p, ok := volume.Place(row, at); p != want || ok != wanted {
				t.Fatalf("%v, %d: %+v, %v, not %+v, %v", row, at, p, ok, want, wanted)
			}
		}
	}
}

func TestIndex(t *testing.T) { // P21.1, P21.2
	for _, row := range rows() {
		m := modelOf(row)
		for _, disk := range about(len(row)) {
			for _, at := range about(len(m.b)) {
				p := api.Place{Disk: disk, At: at}
				want, wanted := m.index(p)
				if n, ok := volume.Index(row, p); n != want || ok != wanted {
					t.Fatalf("%v, %+v: %d, %v, not %d, %v", row, p, n, ok, want, wanted)
				}
			}
		}
	}
}

func TestPlacesAndBack(t *testing.T) { // P21.2
	for _, row := range rows() {
		for at := range volume.Size(row) + 1 {
			p, ok := volume.Place(row, at)
			if n, again := volume.Index(row, p); n != at || !ok || !again {
				t.Fatalf("%v, %d: %+v, %v, and %d, %v", row, at, p, ok, n, again)
			}
		}
	}
}

func TestEnd(t *testing.T) { // P21.1: it is told behind all volumes alone
	row := [][]byte{[]byte("ab"), []byte("cd")}
	for _, c := range []struct {
		p    api.Place
		want int
		ok   bool
	}{
		{api.Place{Disk: 2, At: 0}, 4, true},
		{api.Place{Disk: 2, At: 1}, 0, false},
		{api.Place{Disk: 2, At: -1}, 0, false},
		{api.Place{Disk: 3, At: 0}, 0, false},
		{api.Place{Disk: 1, At: 2}, 0, false}, // behind the last byte of its disk
		{api.Place{Disk: 0, At: 2}, 0, false}, // the next disk's beginning has but one name
	} {
		if n, ok := volume.Index(row, c.p); n != c.want || ok != c.ok {
			t.Errorf("%+v: %d, %v", c.p, n, ok)
		}
	}
	for _, nothing := range [][][]byte{nil, {}, {nil}, {nil, {}}} {
		end := api.Place{Disk: len(nothing)}
		if p, ok := volume.Place(nothing, 0); p != end || !ok {
			t.Errorf("%d volumes without bytes: %+v, %v", len(nothing), p, ok)
		}
		if n, ok := volume.Index(nothing, end); n != 0 || !ok {
			t.Errorf("%d volumes without bytes: %d, %v", len(nothing), n, ok)
		}
		if p, ok := volume.Place(nothing, 1); p != (api.Place{}) || ok {
			t.Errorf("%d volumes without bytes: %+v, %v", len(nothing), p, ok)
		}
	}
}

func TestBytes(t *testing.T) { // P21.1, P21.2
	for _, row := range rows() {
		m := modelOf(row)
		for _, at := range about(len(m.b)) {
			for _, n := range about(len(m.b)) {
				want, wanted := m.bytes(at, n)
				if b, ok := volume.Bytes(row, at, n); !bytes.Equal(b, want) || ok != wanted {
					t.Fatalf("%v, %d, %d: %v, %v, not %v, %v", row, at, n, b, ok, want, wanted)
				}
			}
		}
	}
}

func TestRest(t *testing.T) { // P21.1, P21.2
	for _, row := range rows() {
		m := modelOf(row)
		for _, at := range about(len(m.b)) {
			if b := volume.Rest(row, at); !bytes.Equal(b, m.rest(at)) {
				t.Fatalf("%v, %d: %v, not %v", row, at, b, m.rest(at))
			}
		}
	}
}

func TestLongRows(t *testing.T) { // P21.1, P21.2
	r := source()
	for range 30 {
		row := make([][]byte, r.IntN(400))
		for i := range row {
			row[i] = make([]byte, r.IntN(r.IntN(300)+1))
			for j := range row[i] {
				row[i][j] = byte(r.Uint32())
			}
		}
		m := modelOf(row)
		if volume.Size(row) != len(m.b) {
			t.Fatalf("%d bytes, not %d", volume.Size(row), len(m.b))
		}
		for range 300 {
			at, n := r.IntN(len(m.b)+2), r.IntN(len(m.b)+2)
			want, wanted := m.place(at)
			if p, ok := volume.Place(row, at); p != want || ok != wanted {
				t.Fatalf("place %d: %+v, %v, not %+v, %v", at, p, ok, want, wanted)
			}
			if n, ok := volume.Index(row, want); wanted && (n != at || !ok) {
				t.Fatalf("%+v: %d, %v, not %d", want, n, ok, at)
			}
			all, every := m.bytes(at, n)
			if b, ok := volume.Bytes(row, at, n); !bytes.Equal(b, all) || ok != every {
				t.Fatalf("%d bytes from %d on: %d, %v, not %d, %v", n, at, len(b), ok, len(all), every)
			}
			if b := volume.Rest(row, at); !bytes.Equal(b, m.rest(at)) {
				t.Fatalf("the rest from %d on: %d bytes, not %d", at, len(b), len(m.rest(at)))
			}
		}
	}
}

// heldRow checks what Row answers against the chapter's words.
func heldRow(t *testing.T, table []api.Slot, n int) {
	t.Helper()
	row, e := volume.Row(table, n)
	want := rowError(table, n)
	if e != want || e != api.OK && row != nil || e == api.OK && len(row) != n {
		t.Fatalf("%v, %d: %v, %d, not %d", table, n, row, e, want)
	}
	for i, b := range row {
		if !bytes.Equal(b, table[i].B) {
			t.Fatalf("%v, %d: %v", table, n, row)
		}
	}
}

func TestRow(t *testing.T) { // P21.1, P1
	for _, table := range tables(4) {
		for _, n := range about(len(table)) {
			heldRow(t, table, n)
		}
	}
}

func TestRowTellsTheFirstThatIsWrong(t *testing.T) { // P21.1, P1
	right, empty, lost := api.Slot{There: true, B: []byte("a")}, api.Slot{There: true}, api.Slot{B: []byte("a")}
	for _, c := range []struct {
		table []api.Slot
		n     int
		want  api.Errno
	}{
		{[]api.Slot{right, empty, lost}, 3, api.ErrShort},
		{[]api.Slot{right, lost, empty}, 3, api.ErrLost},
		{[]api.Slot{empty, lost}, 2, api.ErrShort},
		{[]api.Slot{lost, empty}, 2, api.ErrLost},
		{[]api.Slot{{}}, 1, api.ErrLost}, // neither there, nor with bytes
		{[]api.Slot{right, lost, empty}, 1, api.OK},
		{[]api.Slot{lost, empty}, 0, api.ErrArg},
		{[]api.Slot{lost, empty}, 3, api.ErrArg},
		{nil, 0, api.ErrArg},
		{nil, 1, api.ErrArg},
	} {
		if row, e := volume.Row(c.table, c.n); e != c.want || e != api.OK && row != nil {
			t.Errorf("%v, %d: %v, %d", c.table, c.n, row, e)
		}
	}
}

func TestRowsOfMany(t *testing.T) { // P21.1: no bound on how many there are is named
	table := make([]api.Slot, 1000)
	for i := range table {
		table[i] = api.Slot{There: true, B: bytes.Repeat([]byte{byte(i)}, i+1)}
	}
	for _, n := range []int{1, 255, 256, 999, 1000, 1001} {
		heldRow(t, table, n)
	}
	table[998].There = false
	table[999].B = nil
	for _, n := range []int{998, 999, 1000} {
		heldRow(t, table, n)
	}
}

func TestClone(t *testing.T) { // P21.1
	for _, table := range tables(4) {
		if other := volume.Clone(table); !exact(other, table) {
			t.Fatalf("%v: %v", table, other)
		}
	}
}

func TestSame(t *testing.T) { // P21.1
	all := tables(3)
	for _, a := range all {
		for _, b := range all {
			if volume.Same(a, b) != same(a, b) {
				t.Fatalf("%v, %v: %v", a, b, volume.Same(a, b))
			}
		}
	}
}

func TestSameAsCopies(t *testing.T) { // P21.1
	for _, table := range tables(3) {
		other := volume.Clone(table)
		if !volume.Same(table, other) || !volume.Same(other, table) {
			t.Fatalf("%v isn't the same as its copy", table)
		}
		for i := range other {
			other[i].There = !other[i].There
			if volume.Same(table, other) {
				t.Fatalf("%v, %v: the same", table, other)
			}
			other[i].There = !other[i].There
			other[i].B = append(other[i].B, 0)
			if volume.Same(table, other) == table[i].There {
				t.Fatalf("%v, %v: %v", table, other, table[i].There)
			}
			other = volume.Clone(table)
		}
	}
}

func TestCount(t *testing.T) { // P21.1
	for _, table := range tables(4) {
		n := 0
		for _, s := range table {
			if s.There {
				n++
			}
		}
		if volume.Count(table) != n {
			t.Fatalf("%v: %d, not %d", table, volume.Count(table), n)
		}
	}
}

// roomy is slots of one memory, each with bytes and room behind them, and that memory. Bytes and room are told from each other by what they are.
func roomy() ([]api.Slot, []byte) {
	memory := []byte("abXcdeYfZ")
	table := []api.Slot{{There: true, B: memory[0:2:3]}, {There: true, B: memory[3:6:7]}, {There: true, B: memory[7:8:9]}, {B: memory[1:2:2]}}
	return append(make([]api.Slot, 0, 9), table...), memory
}

// volumesOf is the bytes of slots themselves.
func volumesOf(table []api.Slot) [][]byte {
	var row [][]byte
	for _, s := range table {
		row = append(row, s.B)
	}
	return row
}

func TestWhatIsHandedInIsNotTurned(t *testing.T) { // P2
	table, memory := roomy()
	was := volume.Clone(table)
	row := volumesOf(table[:3])
	for n := range 5 {
		volume.Row(table, n)
	}
	for at := range 8 {
		p, _ := volume.Place(row, at)
		volume.Index(row, p)
		volume.Rest(row, at)
		for n := range 8 {
			volume.Bytes(row, at, n)
		}
	}
	volume.Same(table, volume.Clone(table))
	volume.Count(table)
	volume.Size(row)
	if string(memory) != "abXcdeYfZ" || !exact(table, was) {
		t.Errorf("%s, %v", memory, table)
	}
	if slices.ContainsFunc(table[4:9], func(s api.Slot) bool { return s.There || s.B != nil }) {
		t.Errorf("behind the slots: %v", table[4:9])
	}
}

// lists are all lists of bytes that calls answer of a table, call by call.
func lists(table []api.Slot) [][][]byte {
	row, _ := volume.Row(table, 3)
	all := [][][]byte{row, volumesOf(volume.Clone(table))}
	given := volumesOf(table[:3])
	for at := range 7 {
		all = append(all, [][]byte{volume.Rest(given, at)})
		for n := range 7 {
			b, _ := volume.Bytes(given, at, n)
			all = append(all, [][]byte{b})
		}
	}
	return all
}

// flat is lists one behind the other.
func flat(all [][][]byte) []string {
	var texts []string
	for _, list := range all {
		for _, b := range list {
			texts = append(texts, string(b))
		}
	}
	return texts
}

func TestAnswersAreNew(t *testing.T) { // Rules
	table, memory := roomy()
	all := lists(table)
	want := flat(all)
	at := 0
	for _, list := range all {
		for _, b := range list {
			whole := b[:cap(b)] // spare room too
			for i := range whole {
				whole[i] = '#'
			}
			got := flat(all)
			for i := range got {
				if i > at && got[i] != want[i] || i < at && got[i] != string(bytes.Repeat([]byte{'#'}, len(want[i]))) {
					t.Fatalf("list %d shares memory with list %d", at, i)
				}
			}
			at++
		}
	}
	if string(memory) != "abXcdeYfZ" {
		t.Errorf("an answer shares memory with what was handed in: %s", memory)
	}
}

func TestWhatIsHandedInIsNotKept(t *testing.T) { // Rules
	table, memory := roomy()
	all := lists(table)
	want := flat(all)
	for i := range memory {
		memory[i] = '#'
	}
	clear(table[:cap(table)])
	if !slices.Equal(flat(all), want) {
		t.Error("what is answered turns with what was handed in")
	}
}

func TestSlotsOfClonesAreNew(t *testing.T) { // Rules
	table, _ := roomy()
	other := volume.Clone(table)
	clear(other[:cap(other)])
	if want, _ := roomy(); !exact(table, want) {
		t.Errorf("%v", table)
	}
	row, _ := volume.Row(table, 3)
	clear(row[:cap(row)])
	if want, _ := roomy(); !exact(table, want) {
		t.Errorf("%v", table)
	}
}

func TestOneVolumeTwice(t *testing.T) { // Rules: no two lists of one answer share memory
	b := []byte("ab")
	table := []api.Slot{{There: true, B: b}, {There: true, B: b}, {B: b}}
	row, _ := volume.Row(table, 2)
	other := volume.Clone(table)
	row[0][0], other[0].B[0] = 'x', 'x'
	if string(row[1]) != "ab" || string(other[1].B) != "ab" || string(other[2].B) != "ab" || string(b) != "ab" {
		t.Errorf("%s, %v, %s", row, other, b)
	}
}

func TestTooManyBytesTakeNoMemory(t *testing.T) { // P21.1, P1
	row := [][]byte{make([]byte, 1000), make([]byte, 1000)}
	for _, at := range []int{0, 1, 1999, 2000, math.MaxInt} {
		for _, n := range []int{2001, math.MaxInt32, math.MaxInt - 2000, math.MaxInt} {
			if b, ok := volume.Bytes(row, at, n); b != nil || ok {
				t.Errorf("%d from %d on: %d, %v", n, at, len(b), ok)
			}
		}
	}
}
