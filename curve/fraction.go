package curve

import (
	"cmp"

	"kentledge/api"
)

// Lowest returns a fraction in lowest terms.
func Lowest(num, den int) (api.Frac, api.Errno) {
	if den == 0 || !within(num, api.MaxNum) || !within(den, api.MaxNum) {
		return api.Frac{}, api.ErrArg
	}
	f := lowest(num, den)
	if f.Den > api.MaxDen {
		return api.Frac{}, api.ErrRange
	}
	return f, api.OK
}

// Compare returns the order of two fractions.
func Compare(a, b api.Frac) (int, api.Errno) {
	if !isFraction(a) || !isFraction(b) {
		return 0, api.ErrArg
	}
	return order(a, b), api.OK
}

// within reports whether a number lies from -most to most.
func within(n, most int) bool { return -most <= n && n <= most }

func isFraction(f api.Frac) bool {
	return 1 <= f.Den && f.Den <= api.MaxDen && within(f.Num, api.MaxNum) && divisor(f.Num, f.Den) == 1
}

// divisor returns the greatest common divisor of two numbers, of which b is not 0.
func divisor(a, b int) int {
	for a != 0 {
		a, b = b%a, a
	}
	return max(b, -b)
}

func lowest(num, den int) api.Frac {
	d := divisor(num, den)
	if den < 0 {
		d = -d
	}
	return api.Frac{Num: num / d, Den: den / d}
}

// order needs no wider integers: the products are at most MaxNum * MaxDen, 2^61.
func order(a, b api.Frac) int { return cmp.Compare(a.Num*b.Den, b.Num*a.Den) }

func isLess(a, b api.Frac) bool { return order(a, b) < 0 }

func isMore(a, b api.Frac) bool { return order(a, b) > 0 }

// plus keeps lowest terms, since no divisor of Den that Num lacked is gained by adding Den to it.
func plus(f api.Frac, n int) api.Frac { return api.Frac{Num: f.Num + n*f.Den, Den: f.Den} }

func difference(a, b api.Frac) api.Frac { return lowest(a.Num*b.Den-b.Num*a.Den, a.Den*b.Den) }
