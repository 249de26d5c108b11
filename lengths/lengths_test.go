package lengths_test

import (
	"container/heap"
	"math"
	"math/big"
	"math/rand/v2"
	"slices"
	"testing"

	"footlocker/api"
	"footlocker/lengths"
)

// source tells the same numbers in each run.
func source() *rand.Rand { return rand.New(rand.NewPCG(17, 18)) }

const (
	symbols = 288
	longest = 15
	often   = 1 << 30
)

// some is so many frequencies, some of which are 0, many alike, or far from all others.
func some(r *rand.Rand, n int) []int {
	freq := make([]int, n)
	bound := []int{2, 5, 100, 1 << 20, often}[r.IntN(5)]
	for i := range freq {
		switch r.IntN(4) {
		case 0:
			freq[i] = 0
		case 1:
			freq[i] = r.IntN(bound) + 1
		case 2:
			freq[i] = min(1<<r.IntN(31), bound)
		default:
			freq[i] = r.IntN(3) + 1
		}
	}
	return freq
}

// each goes through all lists of so many numbers.
func each(n int, numbers []int, yield func([]int)) {
	list := make([]int, n)
	var fill func(at int)
	fill = func(at int) {
		if at == n {
			yield(list)
			return
		}
		for _, v := range numbers {
			list[at] = v
			fill(at + 1)
		}
	}
	fill(0)
}

// sum is that of 1 / 2^l over all that aren't 0, as the chapter's words say it.
func sum(list []int) *big.Rat {
	all := new(big.Rat)
	for _, l := range list {
		if l > 0 {
			all.Add(all, big.NewRat(1, 1<<l))
		}
	}
	return all
}

// fit tells whether the sum is at most 1.
func fit(list []int) bool { return sum(list).Cmp(big.NewRat(1, 1)) <= 0 }

// coming is the frequencies that aren't 0, the greatest first.
func coming(freq []int) []int {
	come := slices.DeleteFunc(slices.Clone(freq), func(f int) bool { return f == 0 })
	slices.Sort(come)
	slices.Reverse(come)
	return come
}

// product is the cost of lengths that are right.
func product(freq, list []int) int64 {
	cost := int64(0)
	for i, f := range freq {
		cost += int64(f) * int64(list[i])
	}
	return cost
}

// leastOfAll is the least cost of all lengths that fit, each of which is tried.
func leastOfAll(freq []int, limit int) int64 {
	come, least := coming(freq), int64(math.MaxInt64)
	var numbers []int
	for l := range limit {
		numbers = append(numbers, l+1)
	}
	each(len(come), numbers, func(list []int) {
		if fit(list) {
			least = min(least, product(come, list))
		}
	})
	return least
}

// leastByDepth is the least cost, told from one depth of a tree to the next: of the nodes that are open some are given to those that come most often, all others have two below.
func leastByDepth(freq []int, limit int) int64 {
	come := coming(freq)
	n := len(come)
	behind := make([]int64, n+1) // what all from one on weigh
	for i, f := range slices.Backward(come) {
		behind[i] = behind[i+1] + int64(f)
	}
	const never = math.MaxInt64 / 2
	next := make([][]int64, n+1) // by how many are given ahead, and how many nodes are open
	for given := range next {
		next[given] = slices.Repeat([]int64{never}, n+1)
	}
	next[n] = make([]int64, n+1)
	for range limit {
		now := make([][]int64, n+1)
		for given := range now {
			now[given] = slices.Repeat([]int64{never}, n+1)
			for open := range now[given] {
				below := min(2*open, n)
				for leaves := range min(below, n-given) + 1 {
					now[given][open] = min(now[given][open], behind[given]+next[given+leaves][below-leaves])
				}
			}
		}
		next = now
	}
	return next[0][min(1, n)]
}

// row is weights, of which the least comes first.
type row []int64

func (w row) Len() int           { return len(w) }
func (w row) Less(i, k int) bool { return w[i] < w[k] }
func (w row) Swap(i, k int)      { w[i], w[k] = w[k], w[i] }
func (w *row) Push(x any)        { *w = append(*w, x.(int64)) }
func (w *row) Pop() any {
	last := (*w)[len(*w)-1]
	*w = (*w)[:len(*w)-1]
	return last
}

// leastOfAnyLength is the least cost of lengths without a limit: the two that weigh least are put together, till one is left.
func leastOfAnyLength(freq []int) int64 {
	var weights row
	for _, f := range coming(freq) {
		weights = append(weights, int64(f))
	}
	heap.Init(&weights)
	cost := int64(0)
	for weights.Len() > 1 {
		both := heap.Pop(&weights).(int64) + heap.Pop(&weights).(int64)
		cost += both
		heap.Push(&weights, both)
	}
	return cost
}

// check holds what is made against all that the chapter says of it but the cost.
func check(t *testing.T, freq []int, limit int) []int {
	t.Helper()
	list, e := lengths.Make(freq, limit)
	if e != api.OK || len(list) != len(freq) {
		t.Fatalf("Make(%v, %d) = %v, %d", freq, limit, list, e)
	}
	come := coming(freq)
	for i, l := range list {
		if (l == 0) != (freq[i] == 0) || l < 0 || l > limit {
			t.Fatalf("Make(%v, %d) = %v: the length of %d", freq, limit, list, i)
		}
		for k := range list {
			if freq[k] > freq[i] && freq[i] > 0 && list[k] > l {
				t.Fatalf("Make(%v, %d) = %v: %d comes more often than %d, and is longer", freq, limit, list, k, i)
			}
		}
	}
	if len(come) == 1 && slices.Max(list) != 1 {
		t.Fatalf("Make(%v, %d) = %v: one alone hasn't 1", freq, limit, list)
	}
	if len(come) > 1 && sum(list).Cmp(big.NewRat(1, 1)) != 0 {
		t.Fatalf("Make(%v, %d) = %v: the sum is %v", freq, limit, list, sum(list))
	}
	if !lengths.Fit(list) || lengths.Cost(freq, list) != product(freq, list) {
		t.Fatalf("Make(%v, %d) = %v: Fit, Cost", freq, limit, list)
	}
	return list
}

// costs is check, and the least cost as it is known otherwise.
func costs(t *testing.T, freq []int, limit int, least int64) {
	t.Helper()
	list := check(t, freq, limit)
	if got := product(freq, list); got != least {
		t.Fatalf("Make(%v, %d) = %v: it costs %d, not %d", freq, limit, list, got, least)
	}
}

func TestMakeExamples(t *testing.T) { // P9.1
	for _, c := range []struct {
		freq  []int
		limit int
		want  []int
	}{
		{[]int{1, 1, 2, 4}, 3, []int{3, 3, 2, 1}},
		{[]int{1, 1, 2, 4}, 15, []int{3, 3, 2, 1}},
		{[]int{1, 1, 2, 4}, 2, []int{2, 2, 2, 2}},
		{[]int{4, 0, 2, 1, 0, 1}, 4, []int{1, 0, 2, 3, 0, 3}},
		{[]int{1, 2, 4, 8, 16}, 15, []int{4, 4, 3, 2, 1}},
		{[]int{1, 2, 4, 8, 16}, 4, []int{4, 4, 3, 2, 1}},
		{[]int{16, 8, 4, 2, 1}, 3, []int{1, 3, 3, 3, 3}},
		{[]int{7, 7, 7, 7}, 15, []int{2, 2, 2, 2}},
		{[]int{5, 7}, 1, []int{1, 1}},
		{[]int{often, 1}, 15, []int{1, 1}},
		{[]int{0, 9}, 1, []int{0, 1}},
		{[]int{0, 0, 1, 0}, 15, []int{0, 0, 1, 0}},
		{[]int{often}, 1, []int{1}},
		{[]int{0, 0}, 9, []int{0, 0}},
		{[]int{0}, 1, []int{0}},
		{[]int{}, 1, nil},
		{nil, 15, nil},
	} {
		if got, e := lengths.Make(c.freq, c.limit); e != api.OK || !slices.Equal(got, c.want) {
			t.Errorf("Make(%v, %d) = %v, %d, not %v", c.freq, c.limit, got, e, c.want)
		}
	}
}

func TestMakeErrorsInOrder(t *testing.T) { // P9.1, P1
	long, wrongAndLong := make([]int, symbols+1), make([]int, symbols+1)
	wrongAndLong[0] = -1
	wrongAndMany := []int{1, 1, 1, -1}
	for _, c := range []struct {
		freq  []int
		limit int
		want  api.Errno
	}{
		{nil, 0, api.ErrArg}, {nil, 16, api.ErrArg}, {nil, -1, api.ErrArg}, {nil, math.MinInt, api.ErrArg}, {nil, math.MaxInt, api.ErrArg},
		{[]int{1, 1, 2, 4}, 0, api.ErrArg}, {[]int{1, 1, 2, 4}, 16, api.ErrArg},
		{wrongAndLong, 0, api.ErrArg}, {long, 16, api.ErrArg}, {wrongAndMany, 0, api.ErrArg}, {[]int{-1}, 16, api.ErrArg},
		{long, 1, api.ErrLong}, {long, 15, api.ErrLong}, {wrongAndLong, 1, api.ErrLong}, {slices.Repeat([]int{1}, symbols+1), 8, api.ErrLong}, {make([]int, 100000), 9, api.ErrLong},
		{[]int{-1}, 9, api.ErrRange}, {[]int{often + 1}, 9, api.ErrRange}, {[]int{math.MinInt}, 9, api.ErrRange}, {[]int{math.MaxInt}, 9, api.ErrRange},
		{[]int{0, 1, 2, -1}, 9, api.ErrRange}, {[]int{often + 1, 0, 3}, 15, api.ErrRange}, {wrongAndMany, 1, api.ErrRange},
		{[]int{1, 1, 1}, 1, api.ErrMany}, {[]int{1, 0, 1, 0, 1, 0}, 1, api.ErrMany}, {[]int{1, 1, 2, 4}, 1, api.ErrMany}, {[]int{1, 2, 3, 4, 5}, 2, api.ErrMany},
	} {
		if list, e := lengths.Make(c.freq, c.limit); e != c.want || list != nil {
			t.Errorf("Make(%v, %d) = %v, %d, not %d", c.freq, c.limit, list, e, c.want)
		}
	}
}

func TestAsManyAsMayBe(t *testing.T) { // P9.1: 2^limit symbols have the same length, of one more there is none
	for limit := 1; limit <= 8; limit++ {
		freq := []int{0}
		for i := range 1 << limit {
			freq = append(freq, []int{3, 1, often, 9}[i%4])
			if i%9 == 0 {
				freq = append(freq, 0)
			}
		}
		for i, l := range check(t, freq, limit) {
			if freq[i] > 0 && l != limit {
				t.Errorf("limit %d: symbol %d has %d", limit, i, l)
			}
		}
		freq[0] = 1
		if list, e := lengths.Make(freq, limit); list != nil || e != api.ErrMany {
			t.Errorf("limit %d: %v, %d", limit, list, e)
		}
	}
	for limit := 9; limit <= longest; limit++ {
		check(t, slices.Repeat([]int{5}, symbols), limit)
	}
}

func TestNothingCostsLessOfFew(t *testing.T) { // P9.1, P9.2: held against all lengths that fit
	for n := range 5 {
		each(n, []int{0, 1, 2, 3, 5, 9}, func(freq []int) {
			for limit := 1; limit <= 4; limit++ {
				if len(coming(freq)) <= 1<<limit {
					costs(t, freq, limit, leastOfAll(freq, limit))
				}
			}
		})
	}
	r := source()
	for range 40 {
		freq := some(r, 5+r.IntN(3))
		limit := 3 + r.IntN(2)
		costs(t, freq, limit, leastOfAll(freq, limit))
	}
}

func TestNothingCostsLessOfMany(t *testing.T) { // P9.2: held against trees, told by their depths
	r := source()
	for n := range 40 {
		for limit := 1; limit <= longest; limit++ {
			if freq := some(r, n); len(coming(freq)) <= 1<<limit {
				costs(t, freq, limit, max(leastByDepth(freq, limit), ones(freq)))
			}
		}
	}
	for _, limit := range []int{7, 8, 9, 11, 15} {
		freq := some(r, 120)
		costs(t, freq, limit, leastByDepth(freq, limit))
	}
	freq := some(r, symbols)
	costs(t, freq, 9, leastByDepth(freq, 9))
}

// ones is what one alone costs, that has a length though it needs none.
func ones(freq []int) int64 {
	if come := coming(freq); len(come) == 1 {
		return int64(come[0])
	}
	return 0
}

func TestALimitThatIsFarOffChangesNothing(t *testing.T) { // P9.2: sixteen symbols need no more than 15 bits
	r := source()
	for n := 2; n <= 16; n++ {
		for range 30 {
			freq := some(r, n)
			costs(t, freq, longest, max(leastOfAnyLength(freq), ones(freq)))
		}
	}
	alike := slices.Repeat([]int{1}, symbols)
	costs(t, alike, 9, leastOfAnyLength(alike))
}

// rabbits are so many numbers, each the sum of the two ahead, for which codes are as long as can be.
func rabbits(n int) []int {
	list := []int{1, 1}
	for len(list) < n {
		list = append(list, list[len(list)-1]+list[len(list)-2])
	}
	return list[:n]
}

func TestLimitsThatCut(t *testing.T) { // P9.2: what would need 1 to 29 bits without a limit
	freq := rabbits(30)
	for limit := 5; limit <= longest; limit++ {
		costs(t, freq, limit, leastByDepth(freq, limit))
		if least := leastOfAnyLength(freq); lengths.Cost(freq, check(t, freq, limit)) <= least {
			t.Errorf("limit %d costs less than none", limit)
		}
	}
	costs(t, rabbits(16), longest, leastOfAnyLength(rabbits(16)))
	if list := check(t, rabbits(16), longest); slices.Max(list) != longest {
		t.Errorf("%v", list)
	}
	costs(t, []int{1, 1, 2, 3, 5, 8, 13, 21}, 4, 135)
}

func TestGreatFrequencies(t *testing.T) { // P9.1, P9.2: sums go beyond 32 bits
	for n := range symbols + 1 {
		freq := slices.Repeat([]int{often}, n)
		list := check(t, freq, longest)
		if got := lengths.Cost(freq, list); n > 1 && got != leastOfAnyLength(freq) {
			t.Errorf("%d of them cost %d, not %d", n, got, leastOfAnyLength(freq))
		}
	}
	doubled := make([]int, 31)
	for i := range doubled {
		doubled[i] = 1 << i
	}
	costs(t, doubled, longest, leastByDepth(doubled, longest))
}

func TestMoreOftenIsNeverLonger(t *testing.T) { // P9.2: of many symbols (check holds them against each other)
	r := source()
	for range 60 {
		freq := some(r, symbols)
		check(t, freq, 9+r.IntN(7))
	}
}

func TestCost(t *testing.T) { // P9.1
	for _, c := range []struct {
		freq, list []int
		want       int64
	}{
		{nil, nil, 0}, {[]int{3}, nil, 0}, {nil, []int{3}, 0}, {[]int{3}, []int{0}, 0}, {[]int{0}, []int{3}, 0},
		{[]int{3}, []int{5}, 15}, {[]int{1, 1, 2, 4}, []int{3, 3, 2, 1}, 14},
		{[]int{2, 3}, []int{4, 5, 6}, 23}, {[]int{2, 3, 7}, []int{4, 5}, 23},
		{[]int{-3, 2, 9}, []int{4, 20}, 30},
		{[]int{-1, 2}, []int{5, 1}, 2}, {[]int{math.MinInt, 2}, []int{5, 1}, 2}, {[]int{5, 2}, []int{-1, 1}, 2}, {[]int{5, 2}, []int{math.MinInt, 1}, 2}, {[]int{-5}, []int{-5}, 0},
		{[]int{1}, []int{15}, 15}, {[]int{1}, []int{16}, 15}, {[]int{1}, []int{math.MaxInt}, 15},
		{[]int{often}, []int{1}, often}, {[]int{often + 1}, []int{1}, often}, {[]int{math.MaxInt}, []int{1}, often}, {[]int{math.MaxInt}, []int{math.MaxInt}, 15 * often},
		{slices.Repeat([]int{often}, 1000), slices.Repeat([]int{15}, 1000), 15000 * often},
		{slices.Repeat([]int{1}, 100000), slices.Repeat([]int{1}, 200000), 100000},
	} {
		if got := lengths.Cost(c.freq, c.list); got != c.want {
			t.Errorf("Cost(%v, %v) = %d, not %d", c.freq, c.list, got, c.want)
		}
	}
}

func TestFit(t *testing.T) { // P9.1
	for n := range 6 {
		each(n, []int{0, 1, 2, 3, 4, 15}, func(list []int) {
			if got := lengths.Fit(list); got != fit(list) {
				t.Fatalf("Fit(%v) = %t", list, got)
			}
		})
	}
	ladder := []int{1, 2, 3, 4, 5, 6, 7, 8, 9, 10, 11, 12, 13, 14, 15}
	for _, c := range []struct {
		list []int
		want bool
	}{
		{nil, true}, {[]int{}, true}, {[]int{0}, true}, {[]int{1, 1, 0, 0}, true}, {[]int{1, 1, 15}, false},
		{ladder, true}, {append(slices.Clone(ladder), 15), true}, {append(slices.Clone(ladder), 15, 15), false}, {append(slices.Clone(ladder), 14), false},
		{[]int{16}, false}, {[]int{-1}, false}, {[]int{1, 16}, false}, {[]int{1, -1}, false}, {[]int{0, 0, -1}, false}, {[]int{math.MaxInt}, false}, {[]int{math.MinInt}, false}, {[]int{64}, false},
		{make([]int, symbols), true}, {make([]int, symbols+1), false}, {make([]int, 100000), false},
		{slices.Repeat([]int{15}, symbols), true}, {slices.Repeat([]int{15}, symbols+1), false},
		{slices.Repeat([]int{8}, 256), true}, {slices.Repeat([]int{8}, 257), false}, {slices.Repeat([]int{9}, symbols), true}, {slices.Repeat([]int{1}, symbols), false},
	} {
		if got := lengths.Fit(c.list); got != c.want {
			t.Errorf("Fit(%v) = %t", c.list, got)
		}
	}
}

func TestFitOfLongLists(t *testing.T) { // P9.1
	r := source()
	for range 500 {
		list := make([]int, r.IntN(symbols+1))
		least := 1 + r.IntN(9)
		for i := range list {
			list[i] = least + r.IntN(longest+1-least)
			if r.IntN(3) == 0 {
				list[i] = 0
			}
		}
		if got := lengths.Fit(list); got != fit(list) {
			t.Fatalf("Fit(%v) = %t", list, got)
		}
	}
}

func TestTheSameIsChosenAgain(t *testing.T) { // P2, P5
	r := source()
	for range 30 {
		freq := some(r, r.IntN(symbols+1))
		limit := 9 + r.IntN(7)
		first, _ := lengths.Make(freq, limit)
		lengths.Make(some(r, 50), 6)
		if again, _ := lengths.Make(freq, limit); !slices.Equal(first, again) {
			t.Fatalf("Make(%v, %d): %v, and then %v", freq, limit, first, again)
		}
	}
}

func TestListsAreNeitherTurnedNorKept(t *testing.T) { // P2, and the rules that hold everywhere
	whole := []int{4, 1, 0, 2, 7, 1, 77, 78}
	before := slices.Clone(whole)
	freq := whole[:6]
	list, _ := lengths.Make(freq, 5)
	want := slices.Clone(list)
	lengths.Fit(freq)
	lengths.Cost(freq, freq[:3])
	if !slices.Equal(whole, before) {
		t.Errorf("turned: %v", whole)
	}
	other, _ := lengths.Make(freq, 5)
	for i := range other[:cap(other)] {
		other[:cap(other)][i] = 99
	}
	clear(whole)
	if !slices.Equal(list, want) {
		t.Errorf("kept: %v, not %v", list, want)
	}
}
