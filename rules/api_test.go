package rules

import (
	"testing"

	"footlocker/api"
)

func TestErrorsNumbers(t *testing.T) { // section 'Errors'
	for _, c := range []struct {
		got  api.Errno
		want int
	}{
		{api.OK, 0}, {api.ErrArg, 1}, {api.ErrLong, 2}, {api.ErrMany, 3}, {api.ErrNone, 4}, {api.ErrTwice, 5}, {api.ErrFull, 6},
		{api.ErrShort, 20}, {api.ErrForm, 21}, {api.ErrMore, 22}, {api.ErrRange, 23},
		{api.ErrOver, 30}, {api.ErrUnder, 31}, {api.ErrBlock, 32}, {api.ErrStored, 33}, {api.ErrSymbol, 34}, {api.ErrFar, 35},
		{api.ErrName, 40}, {api.ErrTime, 41}, {api.ErrSum, 42}, {api.ErrMethod, 43}, {api.ErrSign, 44},
		{api.ErrSmall, 50}, {api.ErrVolumes, 51}, {api.ErrLost, 52}, {api.ErrGrammar, 53},
	} {
		if int(c.got) != c.want {
			t.Errorf("%d, not %d", c.got, c.want)
		}
	}
}

func TestLimits(t *testing.T) { // section 'Words'
	for _, c := range [][2]int{
		{api.MaxName, 255}, {api.MaxData, 1 << 20}, {api.MaxEntries, 4096}, {api.MaxVolumes, 255},
		{api.MaxVolume, 1 << 24}, {api.MaxWindow, 32768}, {api.MaxMatch, 258}, {api.MinMatch, 3},
	} {
		if c[0] != c[1] {
			t.Errorf("%d, not %d", c[0], c[1])
		}
	}
}
