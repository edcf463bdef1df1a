package hull

import (
	"cmp"
	"iter"
	"slices"

	"kentledge/api"
)

// richest yields, for each total of a load in order, a loading with the greatest value of a form among those with this total, and the price that proves it for this total alone.
func richest(l api.Load, form []int) iter.Seq2[cargo, int] {
	return func(yield func(cargo, int) bool) {
		all := totals(l)
		grow := grower(l, form)
		more := all.Lo - together(l.Holds).Lo
		for range all.Hi - all.Lo + 1 {
			if !yield(grow(more)) {
				return
			}
			more = 1
		}
	}
}

// grower returns a closure with a loading that begins with the least masses. It is told how much to lay into the holds, those of greater weights first, and returns the loading then, and the weight of the hold that is being filled: no hold before it has room left, and none behind it has got anything.
func grower(l api.Load, form []int) func(more int) (cargo, int) {
	var x cargo
	var order []int
	for i, p := range l.Holds {
		x[i] = p.Lo
		order = append(order, i)
	}
	slices.SortStableFunc(order, func(a, b int) int { return cmp.Compare(form[b], form[a]) })
	at := 0
	return func(more int) (cargo, int) {
		if len(order) == 0 {
			return x, 0
		}
		for {
			i := order[at]
			part := min(more, l.Holds[i].Hi-x[i])
			x[i] += part
			more -= part
			if more == 0 {
				return x, form[i]
			}
			at++
		}
	}
}

// worth returns the value of a form.
func worth(x cargo, form []int) int {
	sum := 0
	for i, w := range form {
		sum += w * x[i]
	}
	return sum
}

// bound returns what no loading with a total of a span is worth more than, by a price.
func bound(spans []api.Span, all api.Span, form []int, price int) int {
	sum := max(price*all.Lo, price*all.Hi)
	for i, p := range spans {
		sum += max((form[i]-price)*p.Lo, (form[i]-price)*p.Hi)
	}
	return sum
}

// Most returns the greatest value of a form over all loadings, with a proof.
func Most(s api.Ship, l api.Load, form []int) (api.Price, api.Errno) {
	if e := CheckLoad(s, l); e != api.OK {
		return api.Price{}, e
	}
	if !isForm(s, form) {
		return api.Price{}, api.ErrArg
	}
	p := api.Price{Price: leastBound(l, form)}
	p.Value = bound(l.Holds, l.All, form, p.Price)
	for x := range richest(l, form) {
		if worth(x, form) == p.Value {
			p.Loading = x.list(len(s.Holds))
			break
		}
	}
	return p, api.OK
}

// leastBound returns the price with the least bound, which some loading attains. The bound bends at 0 and at the weights only, and falls before all and rises behind all of them, as there is a loading; so it is least at one of these.
func leastBound(l api.Load, form []int) int {
	price := 0
	for _, w := range form {
		price = greater(price, w, func(p int) int { return -bound(l.Holds, l.All, form, p) })
	}
	return price
}

// CheckMost returns OK if a greatest value is proved.
func CheckMost(s api.Ship, l api.Load, form []int, p api.Price) api.Errno {
	if e := CheckLoad(s, l); e != api.OK {
		return e
	}
	if !isForm(s, form) {
		return api.ErrArg
	}
	if !fits(l, p.Loading) || worth(cargoOf(p.Loading), form) != p.Value {
		return api.ErrProof
	}
	if !isWeight(p.Price) || bound(l.Holds, l.All, form, p.Price) > p.Value {
		return api.ErrProof
	}
	return api.OK
}

func isForm(s api.Ship, form []int) bool {
	if len(form) != len(s.Holds) {
		return false
	}
	for _, w := range form {
		if !isWeight(w) {
			return false
		}
	}
	return true
}

func isWeight(n int) bool { return within(n, -api.MaxWeight, api.MaxWeight) }
