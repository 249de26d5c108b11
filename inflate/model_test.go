package inflate_test

import (
	"slices"
	"strings"
	"sync"

	"footlocker/api"
)

// Bits are told as texts of 0 and 1, in the order in which they are read.

// num is a number's lowest bits, the lowest one first.
func num(v, n int) string {
	text := ""
	for range n {
		text += string(rune('0' + v%2))
		v /= 2
	}
	return text
}

// code is a number's lowest bits, the highest one first.
func code(v, n int) string {
	text := []byte(num(v, n))
	slices.Reverse(text)
	return string(text)
}

// packed is bits as bytes, the last one filled up with noughts.
func packed(parts ...string) []byte {
	text := strings.Join(parts, "")
	b := make([]byte, (len(text)+7)/8)
	for i, bit := range text {
		if bit == '1' {
			b[i/8] += 1 << (i % 8)
		}
	}
	return b
}

// unpacked is bytes as bits.
func unpacked(b []byte) string {
	var text strings.Builder
	for _, v := range b {
		text.WriteString(num(int(v), 8))
	}
	return text.String()
}

// worth is the number of bits, the lowest one first.
func worth(text string) int {
	v := 0
	for i, bit := range text {
		if bit == '1' {
			v += 1 << i
		}
	}
	return v
}

// written is the codes of lengths, one written down behind the other.
func written(list []int) []string {
	codes := make([]string, len(list))
	next := 0
	for n := 1; n <= 15; n++ {
		next *= 2
		for symbol, length := range list {
			if length == n {
				codes[symbol] = code(next, n)
				next++
			}
		}
	}
	return codes
}

// unfit is what is wrong with lengths from 0 to 15.
func unfit(list []int) api.Errno {
	sum, total := 0, 0
	for _, n := range list {
		if n > 0 {
			sum += 32768 >> n
			total += n
		}
	}
	switch {
	case sum > 32768:
		return api.ErrOver
	case sum < 32768 && total > 1:
		return api.ErrUnder
	}
	return api.OK
}

// means is a base and how many further bits.
type means struct{ base, bits int }

// lengthMeans and distMeans are what the codes from 257, and from 0 on, mean.
func lengthMeans() []means { return append(ladder(3, 8, 4, 28), means{258, 0}) }
func distMeans() []means   { return ladder(1, 4, 2, 30) }

// ladder begins with codes that mean one each; then groups of some mean twice as many each as those ahead.
func ladder(base, single, group, count int) []means {
	var all []means
	for i := range count {
		bits := 0
		if i >= single {
			bits = 1 + (i-single)/group
		}
		all = append(all, means{base, bits})
		base += 1 << bits
	}
	return all
}

// reading is a packed row that is read by the chapter's words, bit by bit; e is the first error that was met, and nothing is read behind it.
type reading struct {
	text string
	at   int
	most int
	out  []byte
	e    api.Errno
}

// met keeps the first error.
func (r *reading) met(e api.Errno) {
	if r.e == api.OK {
		r.e = e
	}
}

func (r *reading) num(n int) int {
	if r.e != api.OK {
		return 0
	}
	if len(r.text)-r.at < n {
		r.met(api.ErrShort)
		return 0
	}
	r.at += n
	return worth(r.text[r.at-n : r.at])
}

// symbol is the one whose code stands next. No code stands there, if none of them begins with the bits that are there, nor the other way round.
func (r *reading) symbol(codes map[string]int) int {
	if r.e != api.OK {
		return 0
	}
	longest := 0
	for c := range codes {
		longest = max(longest, len(c))
	}
	for n := 1; n <= longest; n++ {
		if r.at+n > len(r.text) {
			r.met(api.ErrShort)
			return 0
		}
		if s, ok := codes[r.text[r.at:r.at+n]]; ok {
			r.at += n
			return s
		}
	}
	r.met(api.ErrSymbol)
	return 0
}

func (r *reading) put(v byte) {
	if r.e == api.OK && len(r.out) >= max(r.most, 0) {
		r.met(api.ErrFull)
	}
	if r.e == api.OK {
		r.out = append(r.out, v)
	}
}

// table is the codes of lengths, to read by.
func (r *reading) table(list []int) map[string]int {
	if r.e == api.OK {
		r.met(unfit(list))
	}
	codes := map[string]int{}
	for symbol, c := range written(list) {
		if c != "" {
			codes[c] = symbol
		}
	}
	return codes
}

func (r *reading) stored() {
	r.at = (r.at + 7) / 8 * 8
	size, turned := r.num(16), r.num(16)
	if r.e == api.OK && size+turned != 0xFFFF {
		r.met(api.ErrStored)
	}
	for i := 0; i < size && r.e == api.OK; i++ {
		r.put(byte(r.num(8)))
	}
}

// fixedLists are the lengths of fixed blocks.
func fixedLists() (lits, dists []int) {
	for s := range 288 {
		switch {
		case s <= 143:
			lits = append(lits, 8)
		case s <= 255:
			lits = append(lits, 9)
		case s <= 279:
			lits = append(lits, 7)
		default:
			lits = append(lits, 8)
		}
	}
	for range 32 {
		dists = append(dists, 5)
	}
	return lits, dists
}

// fixedTables are their codes, to read by; they are made once, as many short rows need them.
var fixedTables = sync.OnceValues(func() (lits, dists map[string]int) {
	var r reading
	litList, distList := fixedLists()
	return r.table(litList), r.table(distList)
})

// order is that of the lengths' lengths.
var order = []int{16, 17, 18, 0, 8, 7, 9, 6, 10, 5, 11, 4, 12, 3, 13, 2, 14, 1, 15}

// row is lengths, by codes of them.
func (r *reading) row(codes map[string]int, count int) []int {
	var row []int
	for r.e == api.OK && len(row) < count {
		again, times := r.symbol(codes), 1
		switch again {
		case 16:
			if len(row) == 0 {
				r.met(api.ErrSymbol)
				return nil
			}
			again, times = row[len(row)-1], r.num(2)+3
		case 17:
			again, times = 0, r.num(3)+3
		case 18:
			again, times = 0, r.num(7)+11
		}
		for range times {
			row = append(row, again)
		}
	}
	if len(row) > count {
		r.met(api.ErrRange)
	}
	return row
}

func (r *reading) dynamic() {
	lits, dists, count := r.num(5)+257, r.num(5)+1, r.num(4)+4
	if lits > 286 || dists > 30 {
		r.met(api.ErrRange)
	}
	list := make([]int, 19)
	for _, s := range order[:count] {
		list[s] = r.num(3)
	}
	row := r.row(r.table(list), lits+dists)
	if r.e != api.OK {
		return
	}
	if row[256] == 0 {
		r.met(api.ErrForm)
	}
	r.coded(r.table(row[:lits]), r.table(row[lits:]))
}

// coded is symbols up to the end.
func (r *reading) coded(lits, dists map[string]int) {
	for r.e == api.OK {
		s := r.symbol(lits)
		switch {
		case s < 256:
			r.put(byte(s))
		case s == 256:
			return
		case s > 285:
			r.met(api.ErrSymbol)
		default:
			m := lengthMeans()[s-257]
			r.again(m.base+r.num(m.bits), dists)
		}
	}
}

// again is so many bytes again, from as far back as stands next.
func (r *reading) again(length int, dists map[string]int) {
	s := r.symbol(dists)
	if s > 29 {
		r.met(api.ErrSymbol)
		return
	}
	m := distMeans()[s]
	dist := m.base + r.num(m.bits)
	if r.e == api.OK && dist > len(r.out) {
		r.met(api.ErrFar)
	}
	for i := 0; i < length && r.e == api.OK; i++ {
		r.put(r.out[len(r.out)-dist])
	}
}

// told is what Unpack must answer, by the chapter's words.
func told(b []byte, most int) ([]byte, int, api.Errno) {
	r := &reading{text: unpacked(b), most: most}
	for last := 0; last == 0 && r.e == api.OK; {
		last = r.num(1)
		switch kind := r.num(2); {
		case r.e != api.OK:
		case kind == 0:
			r.stored()
		case kind == 1:
			r.coded(fixedTables())
		case kind == 2:
			r.dynamic()
		default:
			r.met(api.ErrBlock)
		}
	}
	if r.e != api.OK {
		return nil, 0, r.e
	}
	return r.out, (r.at + 7) / 8, api.OK
}
