package hull

import (
	"kentledge/api"
	"kentledge/curve"
)

// table is a curve whose X are scores of displacement.
type table struct{ api.Curve }

// serves reports whether a valid table has no value below 0, and one at each displacement of a ship.
func (t table) serves(s api.Ship) bool {
	for _, k := range t.Knots {
		if k.Y < 0 {
			return false
		}
	}
	d, _ := curve.Domain(t.Curve)
	return d.Lo*api.Score <= s.Light && heaviest(s) <= d.Hi*api.Score
}

// at returns the value at a displacement of the ship.
func (t table) at(mass int) api.Frac {
	score, over := mass/api.Score, mass%api.Score
	below := t.atScore(score)
	if over == 0 { // there may be no score above
		return below
	}
	// Knots stand at whole scores: from one score to the next one the table is straight.
	above := t.atScore(score + 1)
	num := below.Num*above.Den*(api.Score-over) + above.Num*below.Den*over
	return lowest(num, below.Den*above.Den*api.Score)
}

// atScore has no error to tell: a ship that was checked has scores in the domain only.
func (t table) atScore(x int) api.Frac {
	v, _ := curve.Value(t.Curve, x)
	return v
}

// lowest returns a fraction in lowest terms; den is greater than 0. curve.Lowest would not do: a metacentric height can have a denominator above api.MaxDen.
func lowest(num, den int) api.Frac {
	a, b := den, num
	for b != 0 {
		a, b = b, a%b
	}
	d := max(a, -a)
	return api.Frac{Num: num / d, Den: den / d}
}

// floor returns the greatest integer that is at most num / den; den is greater than 0.
func floor(num, den int) int {
	q := num / den
	if num%den < 0 { // Go rounds towards 0
		q--
	}
	return q
}

// ceiling returns the least integer that is at least num / den; den is greater than 0.
func ceiling(num, den int) int { return -floor(-num, den) }
