package curve_test

import (
	"testing"

	"kentledge/api"
	"kentledge/curve"
)

// P1.1
func TestLowest(t *testing.T) {
	cases := []struct {
		num, den int
		want     api.Frac
		e        api.Errno
	}{
		{6, 4, frac(3, 2), api.OK},
		{-6, 4, frac(-3, 2), api.OK},
		{6, -4, frac(-3, 2), api.OK},
		{-3, -6, frac(1, 2), api.OK},
		{7, 1, frac(7, 1), api.OK},
		{0, 1, frac(0, 1), api.OK},
		{0, -9, frac(0, 1), api.OK},
		{0, api.MaxNum, frac(0, 1), api.OK},
		{12, 6, frac(2, 1), api.OK},
		{api.MaxNum, 1, frac(api.MaxNum, 1), api.OK},
		{-api.MaxNum, -1, frac(api.MaxNum, 1), api.OK},
		{-api.MaxNum, api.MaxNum, frac(-1, 1), api.OK},
		{1, api.MaxDen, frac(1, api.MaxDen), api.OK},
		{1, -api.MaxDen, frac(-1, api.MaxDen), api.OK},
		{2, 2 * api.MaxDen, frac(1, api.MaxDen), api.OK},
		{api.MaxNum - 1, api.MaxDen, frac(api.MaxNum-1, api.MaxDen), api.OK},
		{1, api.MaxDen + 1, api.Frac{}, api.ErrRange},
		{-3, 2 * api.MaxDen, api.Frac{}, api.ErrRange},
		{1, -api.MaxNum, api.Frac{}, api.ErrRange},
		{1, 0, api.Frac{}, api.ErrArg},
		{0, 0, api.Frac{}, api.ErrArg},
		{api.MaxNum + 1, 1, api.Frac{}, api.ErrArg},
		{-api.MaxNum - 1, 1, api.Frac{}, api.ErrArg},
		{1, api.MaxNum + 1, api.Frac{}, api.ErrArg},
		{1, -api.MaxNum - 1, api.Frac{}, api.ErrArg},
		{api.MaxNum + 1, api.MaxNum + 1, api.Frac{}, api.ErrArg},
		{minInt, minInt, api.Frac{}, api.ErrArg},
		{maxInt, maxInt, api.Frac{}, api.ErrArg},
		{minInt, -1, api.Frac{}, api.ErrArg},
	}
	for _, c := range cases {
		f, e := curve.Lowest(c.num, c.den)
		equal(t, f, c.want, c.num, c.den)
		equal(t, e, c.e, c.num, c.den)
	}
}

// P1.1
func TestCompare(t *testing.T) {
	big := frac(api.MaxNum, 1)
	least := frac(-api.MaxNum, 1)
	cases := []struct {
		a, b api.Frac
		want int
	}{
		{frac(1, 3), frac(2, 5), -1},
		{frac(-1, 3), frac(-2, 5), 1},
		{frac(1, 2), frac(1, 2), 0},
		{frac(0, 1), frac(0, 1), 0},
		{frac(-1, 2), frac(0, 1), -1},
		{frac(3, 1), frac(-3, 1), 1},
		{big, least, 1},
		{least, big, -1},
		{big, big, 0},
		{big, frac(api.MaxNum-1, api.MaxDen), 1},
		{frac(api.MaxNum-1, api.MaxDen), big, -1},
		{frac(1, api.MaxDen), frac(1, api.MaxDen-1), -1},
		{frac(-1, api.MaxDen), frac(-1, api.MaxDen-1), 1},
	}
	for _, c := range cases {
		n, e := curve.Compare(c.a, c.b)
		equal(t, n, c.want, c.a, c.b)
		equal(t, e, api.OK, c.a, c.b)
	}
	bad := []api.Frac{
		{}, frac(0, 2), frac(2, 4), frac(-2, 4), frac(1, 0), frac(1, -1), frac(0, -1), frac(3, -2),
		frac(1, api.MaxDen+1), frac(api.MaxNum+1, 1), frac(-api.MaxNum-1, 1),
		frac(minInt, 1), frac(maxInt, 1), frac(1, minInt), frac(1, maxInt), frac(minInt, minInt),
	}
	for _, b := range bad {
		for _, pair := range [][2]api.Frac{{b, frac(1, 2)}, {frac(1, 2), b}, {b, b}} {
			n, e := curve.Compare(pair[0], pair[1])
			equal(t, n, 0, pair)
			equal(t, e, api.ErrArg, pair)
		}
	}
}
