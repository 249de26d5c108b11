package span_test

import (
	"math/rand/v2"
	"slices"
	"strconv"
	"strings"
	"testing"

	"footlocker/api"
	"footlocker/span"
)

// source tells the same numbers in each run.
func source() *rand.Rand { return rand.New(rand.NewPCG(43, 44)) }

// first is what the first volume begins with.
const first = "PK\x07\x08"

// model is volumes by the chapter's words.
type model struct {
	size int
	row  []string
}

// newModel is the volumes of a new writer.
func newModel(size int) model { return model{size, []string{first}} }

// clone is a model of its own.
func (m model) clone() model { return model{m.size, slices.Clone(m.row)} }

// left is how many bytes there is room for in the volume that is being written.
func (m model) left() int { return m.size - len(m.row[len(m.row)-1]) }

// nextByte is where the next byte would stand.
func (m model) nextByte() api.Place {
	if m.left() == 0 {
		return api.Place{Disk: len(m.row), At: 0}
	}
	return api.Place{Disk: len(m.row) - 1, At: m.size - m.left()}
}

// next is where a record of so many bytes would stand.
func (m model) next(n int) api.Place {
	if n < 1 {
		n = 1
	}
	if n > m.size {
		n = m.size
	}
	if n > m.left() {
		return api.Place{Disk: len(m.row), At: 0}
	}
	return m.nextByte()
}

// record writes a record.
func (m *model) record(b string) (api.Place, api.Errno) {
	if b == "" || len(b) > m.size {
		return api.Place{}, api.ErrSmall
	}
	p := m.next(len(b))
	if p.Disk == len(m.row) {
		m.row = append(m.row, b)
	} else {
		m.row[p.Disk] += b
	}
	return p, api.OK
}

// data writes data, byte by byte.
func (m *model) data(b string) api.Place {
	p := m.nextByte()
	for i := range len(b) {
		m.record(b[i : i+1])
	}
	return p
}

// texts is volumes as texts.
func texts(row [][]byte) []string {
	var all []string
	for _, b := range row {
		all = append(all, string(b))
	}
	return all
}

// volumes is texts as volumes.
func volumes(row []string) [][]byte {
	var all [][]byte
	for _, b := range row {
		all = append(all, []byte(b))
	}
	return all
}

// pair is a writer and its model, what was written, and where each record stands.
type pair struct {
	w       *span.Writer
	m       model
	all     string
	records map[api.Place]string
	told    string // the calls so far, and what is wrong, if something is
	wrong   bool
}

// newPair is a new writer, and its model.
func newPair(size int) *pair {
	w, e := span.New(size)
	p := &pair{w: w, m: newModel(size), all: first, records: map[api.Place]string{}, told: "New " + strconv.Itoa(size)}
	if e != api.OK || w == nil {
		p.fail("an error")
	}
	return p
}

// fail keeps what went wrong, the first time.
func (p *pair) fail(what string) {
	if !p.wrong {
		p.told += ": " + what
		p.wrong = true
	}
}

// text is n bytes, that tell how many were written ahead of them.
func (p *pair) text(n int) string {
	b := make([]byte, n)
	for i := range b {
		b[i] = byte('a' + (len(p.all)+i)%26)
	}
	return string(b)
}

// record writes a record of n bytes to both. What was handed in is written over behind the call.
func (p *pair) record(n int) {
	p.told += ", Record " + strconv.Itoa(n)
	text := p.text(n)
	b := []byte(text)
	got, e := p.w.Record(b)
	want, wanted := p.m.record(text)
	if got != want || e != wanted {
		p.fail("another place, or error")
	}
	if string(b) != text {
		p.fail("what was handed in is turned")
	}
	clear(b)
	if e == api.OK {
		p.all += text
		p.records[want] = text
	}
}

// data writes n bytes of data to both. What was handed in is written over behind the call.
func (p *pair) data(n int) {
	p.told += ", Data " + strconv.Itoa(n)
	text := p.text(n)
	b := []byte(text)
	if got := p.w.Data(b); got != p.m.data(text) {
		p.fail("another place")
	}
	if string(b) != text {
		p.fail("what was handed in is turned")
	}
	clear(b)
	p.all += text
}

// cloned goes on with a clone, while the writer that it is of is written to. If back is asked for, it's the other way round.
func (p *pair) cloned(back bool) {
	p.told += ", Clone"
	one, other := p.w, p.w.Clone()
	if back {
		one, other = other, one
	}
	one.Data([]byte("#"))
	one.Record([]byte("#####"))
	one.Data(make([]byte, 3*p.m.size))
	p.w = other
}

// gone goes on with a writer behind the same volumes.
func (p *pair) gone() {
	p.told += ", Go"
	row := p.w.Row()
	w, e := span.Go(p.m.size, row)
	if w == nil || e != api.OK {
		p.fail("an error")
		return
	}
	for _, b := range row {
		clear(b[:cap(b)])
	}
	clear(row)
	p.w = w
}

// asked turns what the writer answers, which mustn't matter.
func (p *pair) asked() {
	p.told += ", Row"
	row := p.w.Row()
	for _, b := range row {
		clear(b[:cap(b)])
	}
	clear(row[:cap(row)])
}

// check holds the writer against its model, and against what the chapter says of all volumes.
func (p *pair) check() {
	row := texts(p.w.Row())
	if !slices.Equal(row, p.m.row) {
		p.fail("other volumes")
	}
	for _, n := range []int{-1 << 63, -1, 0, 1, 2, 3, p.m.left() - 1, p.m.left(), p.m.left() + 1, p.m.size - 1, p.m.size, p.m.size + 1, 1<<63 - 1} {
		if p.w.Next(n) != p.m.next(n) {
			p.fail("Next " + strconv.Itoa(n))
		}
	}
	p.checkWords(row)
}

// checkWords holds volumes against P22.2.
func (p *pair) checkWords(row []string) {
	for _, b := range row {
		if len(b) < 1 || len(b) > p.m.size {
			p.fail("a volume of " + strconv.Itoa(len(b)))
		}
	}
	if strings.Join(row, "") != p.all {
		p.fail("other bytes than were written")
	}
	for at, text := range p.records {
		if at.Disk >= len(row) || at.At > len(row[at.Disk]) || !strings.HasPrefix(row[at.Disk][at.At:], text) {
			p.fail("a record doesn't stand where it was told")
		}
	}
}

// call is something that is done with a writer and its model.
type call func(p *pair)

// calls are those that matter for volumes of so many bytes: records of none up to more than a volume has, data of none up to more than two have, and the others.
func calls(size int) []call {
	all := []call{
		func(p *pair) { p.cloned(false) },
		func(p *pair) { p.cloned(true) },
		func(p *pair) { p.gone() },
		func(p *pair) { p.asked() },
	}
	for n := range size + 2 {
		all = append(all, func(p *pair) { p.record(n) })
	}
	for n := range 2*size + 2 {
		all = append(all, func(p *pair) { p.data(n) })
	}
	return all
}

// follow does calls one behind the other, and checks behind each.
func follow(t *testing.T, size int, order ...call) {
	t.Helper()
	p := newPair(size)
	p.check()
	for _, do := range order {
		do(p)
		p.check()
	}
	if p.wrong {
		t.Fatal(p.told)
	}
}
