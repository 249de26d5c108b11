package stamp_test

import (
	"math"
	"math/rand/v2"
	"slices"
	"testing"
	"time"

	"footlocker/api"
	"footlocker/stamp"
)

// source tells the same numbers in each run.
func source() *rand.Rand { return rand.New(rand.NewPCG(33, 34)) }

// daysOf is how many days a month has, by the calendar of Go's own library.
func daysOf(year, month int) int {
	if month < 1 || month > 12 {
		return 0
	}
	return time.Date(year, time.Month(month+1), 0, 0, 0, 0, 0, time.UTC).Day()
}

// parts is a stamp's numbers, from the one that weighs most on.
func parts(t api.Stamp) []int {
	return []int{t.Year, t.Month, t.Day, t.Hour, t.Minute, t.Second}
}

// of is the stamp of such numbers.
func of(n []int) api.Stamp {
	return api.Stamp{Year: n[0], Month: n[1], Day: n[2], Hour: n[3], Minute: n[4], Second: n[5]}
}

// isRight tells whether a stamp is right, by the chapter's words.
func isRight(t api.Stamp) bool {
	for i, bound := range [][2]int{{1980, 2107}, {1, 12}, {1, 31}, {0, 23}, {0, 59}, {0, 58}} {
		if n := parts(t)[i]; n < bound[0] || n > bound[1] {
			return false
		}
	}
	return t.Day <= daysOf(t.Year, t.Month) && (t.Second == 0 || slices.Contains([]int{0, 2, 4, 6, 8}, t.Second%10))
}

// likewise checks that Check, Pack and Unpack answer what the chapter's words tell of a stamp.
func likewise(t *testing.T, s api.Stamp) {
	t.Helper()
	want, day, second := api.ErrTime, 0, 0
	if isRight(s) {
		want, day, second = api.OK, (s.Year-1980)*512+s.Month*32+s.Day, s.Hour*2048+s.Minute*32+s.Second/2
	}
	if e := stamp.Check(s); e != want {
		t.Fatalf("%+v: %d, not %d", s, e, want)
	}
	d, m, e := stamp.Pack(s)
	if int(d) != day || int(m) != second || e != want {
		t.Fatalf("%+v: %d, %d, %d, not %d, %d, %d", s, d, m, e, day, second, want)
	}
	if back, e := stamp.Unpack(d, m); want == api.OK && (back != s || e != api.OK) {
		t.Fatalf("%+v: unpacked, it is %+v, %d", s, back, e)
	}
}

func TestTheExample(t *testing.T) { // P17.1
	if d, m, e := stamp.Pack(api.Stamp{Year: 1980, Month: 1, Day: 1}); d != 33 || m != 0 || e != api.OK {
		t.Errorf("%d, %d, %d", d, m, e)
	}
}

func TestAllDays(t *testing.T) { // P17.1, P17.2
	for year := 1975; year <= 2112; year++ {
		for month := -1; month <= 17; month++ {
			for day := -1; day <= 33; day++ {
				likewise(t, api.Stamp{Year: year, Month: month, Day: day})
				likewise(t, api.Stamp{Year: year, Month: month, Day: day, Hour: 23, Minute: 59, Second: 58})
			}
		}
	}
}

func TestAllTimes(t *testing.T) { // P17.1, P17.2
	for hour := -2; hour <= 33; hour++ {
		for minute := -2; minute <= 65; minute++ {
			for second := -3; second <= 65; second++ {
				likewise(t, api.Stamp{Year: 2107, Month: 12, Day: 31, Hour: hour, Minute: minute, Second: second})
			}
		}
	}
}

// edges are numbers that are no part of a right stamp, or just are, some of them but for their lowest bits.
var edges = []int{
	math.MinInt, math.MinInt + 1, math.MinInt32, -1980, -60, -1, 0, 1, 2, 12, 13, 23, 24, 28, 29, 30, 31, 32, 58, 59, 60, 128,
	1979, 1980, 2000, 2100, 2107, 2108, 1<<8 + 2, 1<<16 + 2, 1<<16 + 2000, 1<<32 + 2, 1<<32 + 2000, math.MaxInt32, math.MaxInt - 1, math.MaxInt,
}

func TestNumbersFarOut(t *testing.T) { // P17.1
	right := []int{2000, 2, 2, 2, 2, 2}
	for i := range right {
		for j := range right {
			for _, n := range edges {
				for _, m := range edges {
					turned := slices.Clone(right)
					turned[i], turned[j] = n, m
					likewise(t, of(turned))
				}
			}
		}
	}
}

func TestDays(t *testing.T) { // P17.1
	years := slices.Clone(edges[2 : len(edges)-3])
	for year := -2500; year <= 2500; year++ {
		years = append(years, year)
	}
	for _, year := range years {
		for month := -20; month <= 40; month++ {
			if got := stamp.Days(year, month); got != daysOf(year, month) {
				t.Fatalf("%d-%d: %d", year, month, got)
			}
		}
	}
	for _, c := range [][3]int{
		{2024, 2, 29}, {2023, 2, 28}, {2000, 2, 29}, {1900, 2, 28}, {2100, 2, 28}, {0, 2, 29}, {-4, 2, 29}, {-100, 2, 28}, {-400, 2, 29}, {-1, 2, 28}, {1980, 4, 30}, {1980, 1, 31},
		{math.MaxInt, 2, 28}, {math.MinInt + 1, 2, 28}, {math.MaxInt - 3, 2, 29}, {math.MinInt, 2, 29}, {math.MaxInt, 12, 31}, {math.MinInt, 1, 31}, // the greatest less 3 and the least are 4 times something, but not 100 times
		{2000, 0, 0}, {2000, 13, 0}, {2000, -1, 0}, {2000, math.MaxInt, 0}, {2000, math.MinInt, 0}, {2000, 1<<32 + 2, 0}, {2000, 1<<8 + 2, 0},
	} {
		if got := stamp.Days(c[0], c[1]); got != c[2] {
			t.Errorf("%d-%d: %d", c[0], c[1], got)
		}
	}
}

// told checks what two numbers are unpacked to, by what they are told by division.
func told(t *testing.T, date, second uint16) {
	t.Helper()
	s := api.Stamp{
		Year: int(date)/512 + 1980, Month: int(date) / 32 % 16, Day: int(date) % 32,
		Hour: int(second) / 2048, Minute: int(second) / 32 % 64, Second: int(second) % 32 * 2,
	}
	want := api.OK
	if !isRight(s) {
		s, want = api.Stamp{}, api.ErrTime
	}
	if got, e := stamp.Unpack(date, second); got != s || e != want {
		t.Fatalf("%d, %d: %+v, %d, not %+v, %d", date, second, got, e, s, want)
	}
	if d, m, e := stamp.Pack(s); want == api.OK && (d != date || m != second || e != api.OK) {
		t.Fatalf("%d, %d: packed again, it is %d, %d, %d", date, second, d, m, e)
	}
}

func TestAllNumbers(t *testing.T) { // P17.1, P17.2
	for n := range 1 << 16 {
		told(t, uint16(n), 0)
		told(t, uint16(n), 49021)
		told(t, 33, uint16(n))
		told(t, 65439, uint16(n))
		told(t, 0, uint16(n))
	}
	r := source()
	for range 500000 {
		told(t, uint16(r.IntN(1<<16)), uint16(r.IntN(1<<16)))
	}
}

// made is a right stamp.
func made(r *rand.Rand) api.Stamp {
	s := api.Stamp{Year: 1980 + r.IntN(128), Month: 1 + r.IntN(12), Hour: r.IntN(24), Minute: r.IntN(60), Second: 2 * r.IntN(30)}
	s.Day = 1 + r.IntN(daysOf(s.Year, s.Month))
	return s
}

// worth is a stamp's numbers as one.
func worth(t *testing.T, s api.Stamp) int {
	t.Helper()
	date, second, e := stamp.Pack(s)
	if e != api.OK {
		t.Fatalf("%+v: %d", s, e)
	}
	return int(date)<<16 | int(second)
}

func TestLaterStampsHaveGreaterNumbers(t *testing.T) { // P17.2
	r := source()
	for range 200000 {
		a, b := made(r), made(r)
		same := r.IntN(7)
		b = of(append(parts(a)[:same:same], parts(b)[same:]...)) // they share what weighs most
		if !isRight(b) {
			continue // a day that isn't in that month
		}
		less := worth(t, a) < worth(t, b)
		more := worth(t, a) > worth(t, b)
		if c := stamp.Compare(a, b); (c == -1) != less || (c == 1) != more || (c == 0) != (a == b) {
			t.Fatalf("%+v, %+v: %d", a, b, c)
		}
	}
}

// ahead is -1, 0 or 1, by the first numbers that aren't the same.
func ahead(a, b []int) int {
	for i := range a {
		if a[i] < b[i] {
			return -1
		}
		if a[i] > b[i] {
			return 1
		}
	}
	return 0
}

func TestCompareWhateverTheyAre(t *testing.T) { // P17.1
	r := source()
	for range 300000 {
		a, b := make([]int, 6), make([]int, 6)
		same := r.IntN(7)
		for i := range a {
			a[i], b[i] = edges[r.IntN(len(edges))], edges[r.IntN(len(edges))]
			if i < same {
				b[i] = a[i]
			}
		}
		if got := stamp.Compare(of(a), of(b)); got != ahead(a, b) {
			t.Fatalf("%v, %v: %d", a, b, got)
		}
		if got := stamp.Compare(of(b), of(a)); got != -ahead(a, b) {
			t.Fatalf("%v, %v: %d", b, a, got)
		}
	}
}

func TestCompareByEachNumber(t *testing.T) { // P17.1
	for i := range 6 {
		a, b := []int{5, 5, 5, 5, 5, 5}, []int{5, 5, 5, 5, 5, 5}
		b[i]++
		for j := i + 1; j < 6; j++ {
			b[j] = -9 // what weighs less tells nothing
		}
		if stamp.Compare(of(a), of(b)) != -1 || stamp.Compare(of(b), of(a)) != 1 || stamp.Compare(of(b), of(b)) != 0 {
			t.Errorf("by number %d", i)
		}
	}
	if stamp.Compare(api.Stamp{Year: math.MinInt}, api.Stamp{Year: math.MaxInt}) != -1 || stamp.Compare(api.Stamp{Second: math.MaxInt}, api.Stamp{Second: math.MinInt}) != 1 {
		t.Error("the least and the greatest")
	}
}
