package volume_test

import (
	"math"
	"math/rand/v2"
	"slices"

	"footlocker/api"
)

// source tells the same numbers in each run.
func source() *rand.Rand { return rand.New(rand.NewPCG(41, 42)) }

// model is all bytes of a row, the place of each, and behind these the end.
type model struct {
	b      []byte
	places []api.Place
}

// modelOf is a row byte by byte.
func modelOf(row [][]byte) model {
	var m model
	for disk := range row {
		for at := range row[disk] {
			m.b = append(m.b, row[disk][at])
			m.places = append(m.places, api.Place{Disk: disk, At: at})
		}
	}
	m.places = append(m.places, api.Place{Disk: len(row), At: 0})
	return m
}

// place is the place at which so many stand ahead.
func (m model) place(at int) (api.Place, bool) {
	if at < 0 || at >= len(m.places) {
		return api.Place{}, false
	}
	return m.places[at], true
}

// index is how many stand ahead of a place.
func (m model) index(p api.Place) (int, bool) {
	at := slices.Index(m.places, p)
	return max(at, 0), at >= 0
}

// bytes is the n bytes from the at-th on, told one by one.
func (m model) bytes(at, n int) ([]byte, bool) {
	if at < 0 || n < 0 || at > len(m.b) {
		return nil, false
	}
	var all []byte
	for len(all) < n {
		if at+len(all) == len(m.b) {
			return nil, false
		}
		all = append(all, m.b[at+len(all)])
	}
	return all, true
}

// rest is the bytes from the at-th on that stand on its disk.
func (m model) rest(at int) []byte {
	if at < 0 {
		return nil
	}
	var all []byte
	for i := at; i < len(m.b) && m.places[i].Disk == m.places[at].Disk; i++ {
		all = append(all, m.b[i])
	}
	return all
}

// rowOf is volumes of so many bytes, each byte another one.
func rowOf(lengths []int) [][]byte {
	var row [][]byte
	next := byte(1)
	for _, n := range lengths {
		b := []byte{}
		for range n {
			b = append(b, next)
			next++
		}
		row = append(row, b)
	}
	return row
}

// rows are all rows of up to five volumes of up to three bytes each. Those that are empty are among them, as a row that is handed in may have such.
func rows() [][][]byte {
	var all [][][]byte
	var grow func(lengths []int)
	grow = func(lengths []int) {
		all = append(all, rowOf(lengths))
		if len(lengths) == 5 {
			return
		}
		for n := range 4 {
			grow(append(slices.Clone(lengths), n))
		}
	}
	grow(nil)
	return all
}

// about are the numbers from two below 0 to two above one, and some far out.
func about(n int) []int {
	all := []int{math.MinInt, math.MinInt + 1, math.MinInt32, math.MaxInt32, math.MaxInt - 1, math.MaxInt}
	for i := -2; i <= n+2; i++ {
		all = append(all, i)
	}
	return all
}

// kinds are all that a slot may be: there with bytes, there and empty, not there, with bytes or without.
var kinds = []api.Slot{
	{There: true, B: []byte("ab")},
	{There: true, B: []byte("ac")},
	{There: true, B: []byte("a")},
	{There: true, B: nil},
	{There: true, B: []byte{}},
	{There: false, B: []byte("ab")},
	{There: false, B: nil},
}

// tables are all tables of so many slots, and of fewer.
func tables(most int) [][]api.Slot {
	all := [][]api.Slot{nil}
	for from := 0; most > 0; most-- {
		to := len(all)
		for _, table := range all[from:to] {
			for _, s := range kinds {
				all = append(all, append(slices.Clone(table), s))
			}
		}
		from = to
	}
	return all
}

// rowError is the error of a table's first n volumes, by the chapter's words.
func rowError(table []api.Slot, n int) api.Errno {
	if n < 1 || n > len(table) {
		return api.ErrArg
	}
	for _, s := range table[:n] {
		if !s.There {
			return api.ErrLost
		}
		if len(s.B) == 0 {
			return api.ErrShort
		}
	}
	return api.OK
}

// same tells whether tables are the same, by the chapter's words.
func same(a, b []api.Slot) bool {
	if len(a) != len(b) {
		return false
	}
	for i := range a {
		if a[i].There != b[i].There {
			return false
		}
		if a[i].There && string(a[i].B) != string(b[i].B) {
			return false
		}
	}
	return true
}

// exact tells whether tables have the same slots, with the same bytes in those that aren't there, too.
func exact(a, b []api.Slot) bool {
	return slices.EqualFunc(a, b, func(x, y api.Slot) bool { return x.There == y.There && string(x.B) == string(y.B) })
}
