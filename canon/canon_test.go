package canon_test

import (
	"cmp"
	"math"
	"math/rand/v2"
	"slices"
	"strconv"
	"strings"
	"testing"

	"footlocker/api"
	"footlocker/bits"
	"footlocker/canon"
	"footlocker/lengths"
)

// source tells the same numbers in each run.
func source() *rand.Rand { return rand.New(rand.NewPCG(19, 20)) }

const (
	symbols = 288
	longest = 15
)

// ladder is codes of all lengths, that leave no room.
func ladder() []int { return []int{1, 2, 3, 4, 5, 6, 7, 8, 9, 10, 11, 12, 13, 14, 15, 15} }

// usual is the lengths of a fixed block's symbols.
func usual() []int {
	return slices.Concat(slices.Repeat([]int{8}, 144), slices.Repeat([]int{9}, 112), slices.Repeat([]int{7}, 24), slices.Repeat([]int{8}, 8))
}

// each goes through all lists of so many numbers.
func each(n int, numbers []int, yield func([]int)) {
	list := make([]int, n)
	var fill func(at int)
	fill = func(at int) {
		if at == n {
			yield(list)
			return
		}
		for _, v := range numbers {
			list[at] = v
			fill(at + 1)
		}
	}
	fill(0)
}

// some is lengths for so many symbols that leave no room, in whatever order.
func some(r *rand.Rand, n int) []int {
	freq := make([]int, n)
	for i := range freq {
		if r.IntN(4) > 0 {
			freq[i] = 1 << r.IntN(25)
		}
	}
	freq[r.IntN(n)] = 3
	list, _ := lengths.Make(freq, max(9, r.IntN(longest+1)))
	return list
}

// wrong is what is wrong with lengths, by the chapter's words.
func wrong(list []int) api.Errno {
	taken, come, last := 0, 0, 0
	for _, n := range list {
		if n < 0 || n > longest {
			return api.ErrArg
		}
		if n > 0 {
			taken += 1 << longest >> n
			come++
			last = n
		}
	}
	switch {
	case len(list) > symbols:
		return api.ErrArg
	case taken > 1<<longest:
		return api.ErrOver
	case taken == 1<<longest || come == 0 || come == 1 && last == 1:
		return api.OK
	}
	return api.ErrUnder
}

// written is the codes of lengths as bits that are written down, by the chapter's words: symbol by symbol, the shorter ones first.
func written(list []int) []string {
	order := make([]int, len(list))
	for i := range order {
		order[i] = i
	}
	slices.SortStableFunc(order, func(a, b int) int { return cmp.Compare(list[a], list[b]) })
	codes := make([]string, len(list))
	next := ""
	for _, symbol := range order {
		if list[symbol] > 0 {
			next += strings.Repeat("0", list[symbol]-len(next))
			codes[symbol] = next
			next = following(next)
		}
	}
	return codes
}

// following is the next number as bits that are written down: the last 0 is a 1, those behind it are 0.
func following(code string) string {
	at := strings.LastIndexByte(code, '0')
	if at < 0 {
		return code
	}
	return code[:at] + "1" + strings.Repeat("0", len(code)-at-1)
}

// number is what bits that are written down come to.
func number(code string) uint32 {
	n, _ := strconv.ParseUint("0"+code, 2, 32)
	return uint32(n)
}

// got is what Read should tell, and how many bits it should read (which is left open when they end).
func got(codes []string, row string) (symbol int, e api.Errno, read int) {
	for read = 0; ; read++ {
		begun := false
		for symbol, code := range codes {
			if code != "" && code == row[:read] {
				return symbol, api.OK, read
			}
			begun = begun || code != "" && strings.HasPrefix(code, row[:read])
		}
		if !begun {
			return 0, api.ErrSymbol, read
		}
		if read == len(row) {
			return 0, api.ErrShort, read
		}
	}
}

// reader is a reader in whose bytes just these bits are left, behind others if they don't fill them, and where it stands.
func reader(row string) (*bits.Reader, int) {
	var w bits.Writer
	ahead := (8 - len(row)%8) % 8
	w.Put(0xFF, ahead)
	for _, bit := range row {
		w.Put(uint32(bit-'0'), 1)
	}
	r := bits.Read(w.Done())
	r.Get(ahead)
	return r, ahead
}

// sameRead tells whether a table reads as the codes say.
func sameRead(table *canon.Table, codes []string, row string) bool {
	r, ahead := reader(row)
	symbol, e := table.Read(r)
	want, wantE, read := got(codes, row)
	return symbol == want && e == wantE && (e == api.ErrShort || r.At() == ahead+read)
}

// rows are all rows of up to so many bits.
func rows(most int) []string {
	all := []string{""}
	for i := 0; len(all[i]) < most; i++ {
		all = append(all, all[i]+"0", all[i]+"1")
	}
	return all
}

// check holds Codes, New, and Code against the codes as they are written down.
func check(t *testing.T, list []int) (*canon.Table, []string) {
	t.Helper()
	want := written(list)
	codes, e := canon.Codes(list)
	table, e2 := canon.New(list)
	if e != api.OK || e2 != api.OK || table == nil || len(codes) != len(list) {
		t.Fatalf("%v: %v, %d and %d", list, codes, e, e2)
	}
	for symbol, n := range list {
		code, length := table.Code(symbol)
		if codes[symbol] != number(want[symbol]) || code != codes[symbol] || length != n {
			t.Fatalf("%v: symbol %d has %b, and %b of %d bits, not %s", list, symbol, codes[symbol], code, length, want[symbol])
		}
	}
	return table, want
}

// refused holds Codes and New against an error.
func refused(t *testing.T, list []int, want api.Errno) {
	t.Helper()
	if codes, e := canon.Codes(list); codes != nil || e != want {
		t.Errorf("Codes(%v) = %v, %d, not %d", list, codes, e, want)
	}
	if table, e := canon.New(list); table != nil || e != want {
		t.Errorf("New(%v) = %v, %d, not %d", list, table, e, want)
	}
}

func TestTheExample(t *testing.T) { // P10.1
	list := []int{2, 1, 3, 3}
	if codes, e := canon.Codes(list); !slices.Equal(codes, []uint32{0b10, 0, 0b110, 0b111}) || e != api.OK {
		t.Errorf("%b, %d", codes, e)
	}
	table, _ := check(t, list)
	r := bits.Read([]byte{0b01_0_11_111}) // 111, 110, 10, the first bit being the lowest one
	for _, want := range []int{3, 2, 0} {
		if symbol, e := table.Read(r); symbol != want || e != api.OK {
			t.Errorf("%d, %d, not %d", symbol, e, want)
		}
	}
	if r.At() != 8 {
		t.Errorf("%d bits were read", r.At())
	}
}

func TestCodesThatAreKnown(t *testing.T) { // P10.1
	for _, c := range []struct {
		list []int
		want []uint32
	}{
		{nil, nil}, {[]int{}, nil}, {[]int{0}, []uint32{0}}, {[]int{0, 0, 0}, []uint32{0, 0, 0}},
		{[]int{1}, []uint32{0}}, {[]int{0, 1}, []uint32{0, 0}}, {[]int{1, 0, 0}, []uint32{0, 0, 0}},
		{[]int{1, 1}, []uint32{0, 1}}, {[]int{2, 0, 2, 1}, []uint32{0b10, 0, 0b11, 0}},
		{[]int{2, 2, 2, 2}, []uint32{0, 1, 2, 3}}, {[]int{3, 3, 3, 3, 3, 2, 4, 4}, []uint32{2, 3, 4, 5, 6, 0, 14, 15}},
		{[]int{4, 4, 1, 4, 4, 2}, []uint32{0b1100, 0b1101, 0, 0b1110, 0b1111, 0b10}},
	} {
		if codes, e := canon.Codes(c.list); !slices.Equal(codes, c.want) || e != api.OK {
			t.Errorf("Codes(%v) = %v, %d, not %v", c.list, codes, e, c.want)
		}
		check(t, c.list)
	}
	codes, _ := canon.Codes(usual())
	for _, c := range []struct {
		symbol int
		want   uint32
	}{{0, 0b00110000}, {143, 0b10111111}, {144, 0b110010000}, {255, 0b111111111}, {256, 0}, {279, 0b0010111}, {280, 0b11000000}, {287, 0b11000111}} {
		if codes[c.symbol] != c.want {
			t.Errorf("symbol %d has %b, not %b", c.symbol, codes[c.symbol], c.want)
		}
	}
	codes, _ = canon.Codes(ladder())
	for i, code := range codes[:longest] {
		if code != 1<<(i+1)-2 {
			t.Errorf("the code of %d bits is %b", i+1, code)
		}
	}
}

func TestErrorsInOrder(t *testing.T) { // P10.1, P1
	full := slices.Repeat([]int{8}, 256)
	for _, c := range []struct {
		list []int
		want api.Errno
	}{
		{make([]int, symbols+1), api.ErrArg}, {slices.Repeat([]int{1}, symbols+1), api.ErrArg}, {slices.Repeat([]int{15}, symbols+1), api.ErrArg}, {append(slices.Clone(full), make([]int, 33)...), api.ErrArg},
		{[]int{16}, api.ErrArg}, {[]int{-1}, api.ErrArg}, {[]int{math.MinInt}, api.ErrArg}, {[]int{math.MaxInt}, api.ErrArg}, {[]int{1, 1, 16}, api.ErrArg}, {[]int{1, 1, -1}, api.ErrArg},
		{[]int{1, 1, 1, 16}, api.ErrArg}, {[]int{-1, 1, 1, 1}, api.ErrArg}, {[]int{2, -1}, api.ErrArg}, {[]int{1, 0, -1}, api.ErrArg},
		{[]int{1, 1, 1}, api.ErrOver}, {[]int{1, 1, 15}, api.ErrOver}, {[]int{2, 2, 2, 2, 0, 2}, api.ErrOver}, {append(ladder(), 15), api.ErrOver}, {append(slices.Clone(full), 8), api.ErrOver}, {append(slices.Clone(full), 15), api.ErrOver},
		{slices.Repeat([]int{1}, symbols), api.ErrOver}, {slices.Repeat([]int{8}, symbols), api.ErrOver},
		{[]int{2}, api.ErrUnder}, {[]int{15}, api.ErrUnder}, {[]int{0, 3, 0}, api.ErrUnder}, {[]int{2, 2}, api.ErrUnder}, {[]int{1, 2}, api.ErrUnder}, {[]int{1, 15}, api.ErrUnder}, {[]int{15, 15}, api.ErrUnder},
		{ladder()[:longest], api.ErrUnder}, {full[1:], api.ErrUnder}, {slices.Repeat([]int{9}, symbols), api.ErrUnder}, {slices.Repeat([]int{15}, symbols), api.ErrUnder},
	} {
		refused(t, c.list, c.want)
	}
	for _, list := range [][]int{full, append(slices.Clone(full), make([]int, 32)...), ladder(), usual(), make([]int, symbols), append(make([]int, symbols-1), 1), {1, 1}} {
		check(t, list)
	}
}

func TestAllShortLists(t *testing.T) { // P10.1, P10.2: each list, and each row of bits behind it
	short := rows(7)
	for n := range 6 {
		each(n, []int{0, 1, 2, 3, 4, 5, 16, -1}, func(list []int) {
			if want := wrong(list); want != api.OK {
				refused(t, list, want)
				return
			}
			table, codes := check(t, list)
			for _, row := range short {
				if !sameRead(table, codes, row) {
					t.Fatalf("a table of %v doesn't read %s", list, row)
				}
			}
		})
	}
}

func TestListsOfAllKinds(t *testing.T) { // P10.1: long ones, some of which are refused
	r := source()
	for range 3000 {
		list := some(r, 2+r.IntN(symbols-1))
		for range r.IntN(3) {
			list[r.IntN(len(list))] = r.IntN(longest + 1)
		}
		if want := wrong(list); want != api.OK {
			refused(t, list, want)
		} else {
			check(t, list)
		}
	}
}

func TestNoCodeBeginsAnother(t *testing.T) { // P10.2
	r := source()
	lists := [][]int{ladder(), usual(), {1, 1}, {0, 1}}
	for range 50 {
		lists = append(lists, some(r, 2+r.IntN(symbols-1)))
	}
	for _, list := range lists {
		table, _ := check(t, list)
		var whole []string
		for symbol := range list {
			if code, n := table.Code(symbol); n > 0 {
				text := strconv.FormatUint(uint64(code), 2)
				whole = append(whole, strings.Repeat("0", max(n-len(text), 0))+text)
				if len(whole[len(whole)-1]) != n {
					t.Fatalf("%v: symbol %d has %b, in %d bits", list, symbol, code, n)
				}
			}
		}
		slices.Sort(whole) // one that begins another stands right ahead of such a one
		for i := range max(len(whole)-1, 0) {
			if strings.HasPrefix(whole[i+1], whole[i]) {
				t.Fatalf("%v: %s begins %s", list, whole[i], whole[i+1])
			}
		}
	}
}

func TestWhatIsWrittenIsRead(t *testing.T) { // P10.2, P3
	r := source()
	lists := [][]int{ladder(), usual(), {1, 1}, {0, 1}, {0, 0, 1, 0}, {2, 1, 3, 3}}
	for range 80 {
		lists = append(lists, some(r, 2+r.IntN(symbols-1)))
	}
	for _, list := range lists {
		table, _ := check(t, list)
		var row []int
		for len(row) < 400 {
			if symbol := r.IntN(len(list)); list[symbol] > 0 {
				row = append(row, symbol)
			}
		}
		var w bits.Writer
		for _, symbol := range row {
			code, n := table.Code(symbol)
			w.Code(code, n)
		}
		read := bits.Read(w.Done())
		at := 0
		for i, symbol := range row {
			at += list[symbol]
			if got, e := table.Read(read); got != symbol || e != api.OK || read.At() != at {
				t.Fatalf("%v: item %d is %d, %d, up to bit %d; not %d, up to bit %d", list, i, got, e, read.At(), symbol, at)
			}
		}
	}
}

func TestBitsThatEndWithinACode(t *testing.T) { // P10.1
	for _, list := range [][]int{ladder(), usual(), {2, 1, 3, 3}, {0, 1}, {1, 1}} {
		table, codes := check(t, list)
		for _, code := range codes {
			for n := range len(code) {
				r, _ := reader(code[:n])
				if symbol, e := table.Read(r); symbol != 0 || e != api.ErrShort {
					t.Fatalf("%v: %s of %s is %d, %d", list, code[:n], code, symbol, e)
				}
				if symbol, e := table.Read(r); symbol != 0 || e != api.ErrShort {
					t.Fatalf("%v: behind %s of %s is %d, %d", list, code[:n], code, symbol, e)
				}
			}
			if code != "" && !sameRead(table, codes, code) || !sameRead(table, codes, code+"0") || !sameRead(table, codes, code+"1") {
				t.Fatalf("%v: %s isn't read", list, code)
			}
		}
	}
}

func TestATableOfOneCode(t *testing.T) { // P10.1: a 1 is no code, and is read
	for _, list := range [][]int{{1}, {0, 1}, {0, 0, 1, 0}, append(make([]int, symbols-1), 1)} {
		table, _ := check(t, list)
		symbol := slices.Index(list, 1)
		r := bits.Read([]byte{0b00001010})
		for i, want := range []api.Errno{api.OK, api.ErrSymbol, api.OK, api.ErrSymbol, api.OK, api.OK, api.OK, api.OK, api.ErrShort} {
			got, e := table.Read(r)
			if e != want || e == api.OK && got != symbol || e != api.OK && got != 0 || r.At() != min(i+1, 8) {
				t.Errorf("%v: bit %d is %d, %d, up to %d", list, i, got, e, r.At())
			}
		}
	}
}

func TestATableWithoutCodes(t *testing.T) { // P10.1: nothing is read, whether there are bits or not
	table, _ := check(t, nil)
	zeros, _ := check(t, []int{0, 0, 0})
	all, _ := check(t, make([]int, symbols))
	for i, table := range []*canon.Table{table, zeros, all, {}} {
		for _, b := range [][]byte{nil, {0}, {0xFF, 0xFF}} {
			r := bits.Read(b)
			r.Bit()
			at := r.At()
			for range 2 {
				if symbol, e := table.Read(r); symbol != 0 || e != api.ErrSymbol || r.At() != at {
					t.Errorf("table %d, of %v: %d, %d, up to %d", i, b, symbol, e, r.At())
				}
			}
		}
	}
}

func TestCodesOfNoSymbol(t *testing.T) { // P10.1
	for _, list := range [][]int{nil, {0, 0}, {2, 1, 0, 3, 3}, usual()} {
		table, _ := check(t, list)
		for _, symbol := range []int{math.MinInt, -1, len(list), len(list) + 1, symbols, math.MaxInt} {
			if code, n := table.Code(symbol); code != 0 || n != 0 {
				t.Errorf("%v: symbol %d has %b, of %d bits", list, symbol, code, n)
			}
		}
	}
	var table canon.Table
	if code, n := table.Code(0); code != 0 || n != 0 {
		t.Errorf("of none: %b, of %d bits", code, n)
	}
}

func TestReadersThatHaveNoBits(t *testing.T) { // P1
	table, _ := check(t, []int{2, 1, 3, 3})
	for i, r := range []*bits.Reader{nil, {}, bits.Read(nil)} {
		if symbol, e := table.Read(r); symbol != 0 || e != api.ErrShort {
			t.Errorf("reader %d: %d, %d", i, symbol, e)
		}
	}
}

func TestListsAreNeitherTurnedNorKept(t *testing.T) { // P2, and the rules that hold everywhere
	whole := []int{2, 1, 0, 3, 3, 77, 78}
	before := slices.Clone(whole)
	list := whole[:5]
	codes, _ := canon.Codes(list)
	table, _ := canon.New(list)
	if !slices.Equal(whole, before) {
		t.Errorf("turned: %v", whole)
	}
	want := slices.Clone(codes)
	other, _ := canon.Codes(list)
	for i := range other[:cap(other)] {
		other[:cap(other)][i] = 99
	}
	for i := range whole {
		whole[i] = 1
	}
	if !slices.Equal(codes, want) {
		t.Errorf("kept: %v, not %v", codes, want)
	}
	clear(codes)
	for symbol, code := range want {
		if got, n := table.Code(symbol); got != code || n != before[symbol] {
			t.Errorf("kept: symbol %d has %b, of %d bits", symbol, got, n)
		}
	}
	for _, row := range rows(5) {
		if !sameRead(table, written(before[:5]), row) {
			t.Errorf("kept: %s is read otherwise", row)
		}
	}
}

func TestTablesDoNotHeedEachOther(t *testing.T) { // P2
	one, codes := check(t, []int{2, 1, 3, 3})
	other, otherCodes := check(t, ladder())
	r, _ := reader(codes[2] + otherCodes[9] + codes[0] + otherCodes[15])
	for i, c := range []struct {
		table *canon.Table
		want  int
	}{{one, 2}, {other, 9}, {one, 0}, {other, 15}} {
		if symbol, e := c.table.Read(r); symbol != c.want || e != api.OK {
			t.Errorf("item %d is %d, %d, not %d", i, symbol, e, c.want)
		}
	}
}
