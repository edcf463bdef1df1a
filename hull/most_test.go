package hull_test

import (
	"slices"
	"testing"

	"kentledge/api"
	"kentledge/hull"
)

// proved fails unless a price is right by the words of the chapter.
func proved(t *testing.T, s api.Ship, l api.Load, form []int, p api.Price) {
	t.Helper()
	equal(t, hull.Fits(s, l, p.Loading), true, s, l, form, p)
	equal(t, worthByWords(form, p.Loading), p.Value, l, form, p)
	equal(t, boundByWords(l, l.All, form, p.Price), p.Value, l, form, p)
	equal(t, -api.MaxWeight <= p.Price && p.Price <= api.MaxWeight, true, l, form, p)
	equal(t, hull.CheckMost(s, l, form, p), api.OK, s, l, form, p)
}

// P3.3
func TestMost(t *testing.T) {
	l := loadOf(span(300, 350), span(0, 400), span(100, 200))
	for _, c := range []struct {
		l    api.Load
		form []int
		want int
	}{
		{l, []int{1, 2}, 550},
		{l, []int{-3, -1}, -500},
		{l, []int{0, 0}, 0},
		{l, []int{-1, 1}, 100},
		{l, []int{2, -1}, 400},
		{l, []int{5, 5}, 1750},
		{l, []int{-5, -5}, -1500},
		{l, []int{api.MaxWeight, -api.MaxWeight}, 150 * api.MaxWeight},
		{l, []int{-api.MaxWeight, -api.MaxWeight}, -300 * api.MaxWeight},
		{l, []int{api.MaxWeight, api.MaxWeight}, 350 * api.MaxWeight},
		{loadOf(span(0, 3999), span(0, 400), span(100, 200)), []int{3, 2}, 1600},
		{loadOf(span(0, 3999), span(0, 400), span(100, 200)), []int{-3, -2}, -200},
		{loadOf(span(600, 4599), span(0, 400), span(100, 200)), []int{-3, -2}, -1600},
		{loadOf(span(7, 9), span(3, 3), span(4, 4)), []int{-3, 2}, -1},
	} {
		p, e := hull.Most(example(), c.l, c.form)
		good(t, e, c)
		equal(t, p.Value, c.want, c)
		proved(t, example(), c.l, c.form, p)
	}
	p, e := hull.Most(bare(), loadOf(span(0, 9)), nil)
	good(t, e)
	equal(t, p.Value, 0)
	proved(t, bare(), loadOf(span(0, 9)), nil, p)
}

// P3.3: the greatest value of all loadings, one by one.
func TestMostIsTheGreatestValue(t *testing.T) {
	forLoads(t, func(d *dice, s api.Ship, l api.Load) {
		form := d.form(s)
		p, e := hull.Most(s, l, form)
		good(t, e, s, l, form)
		most := minInt
		for _, x := range loadingsOf(l) {
			most = max(most, worthByWords(form, x))
		}
		equal(t, p.Value, most, s, l, form)
		proved(t, s, l, form, p)
	})
	forLarge(t, func(d *dice, s api.Ship, l api.Load) {
		var form []int
		for range s.Holds {
			form = append(form, d.between(-api.MaxWeight, api.MaxWeight))
		}
		p, e := hull.Most(s, l, form)
		good(t, e, s, l, form)
		proved(t, s, l, form, p)
	})
}

// P3.3: each price, value and loading around the right ones.
func TestCheckMost(t *testing.T) {
	forLoads(t, func(d *dice, s api.Ship, l api.Load) {
		form := d.form(s)
		all := loadingsOf(l)
		most := minInt
		for _, x := range all {
			most = max(most, worthByWords(form, x))
		}
		rooms := inSpans(roomsOf(s))
		for price := -5; price <= 5; price++ {
			x := rooms[d.between(0, len(rooms)-1)]
			if d.between(0, 1) == 0 {
				x = all[d.between(0, len(all)-1)]
			}
			for value := most - 1; value <= most+1; value++ {
				want := api.ErrProof
				if contains(all, x) && worthByWords(form, x) == value && boundByWords(l, l.All, form, price) <= value {
					want = api.OK
				}
				equal(t, hull.CheckMost(s, l, form, api.Price{Value: value, Loading: x, Price: price}), want, s, l, form, x, price)
			}
		}
	})
}

// P3.3
func TestWrongPrices(t *testing.T) {
	l := loadOf(span(300, 350), span(0, 400), span(100, 200))
	right := api.Price{Value: 550, Loading: []int{150, 200}, Price: 1}
	equal(t, hull.CheckMost(example(), l, []int{1, 2}, right), api.OK)
	for _, p := range []api.Price{
		{Value: 549, Loading: []int{149, 200}, Price: 1},
		{Value: 551, Loading: []int{150, 200}, Price: 1},
		{Value: 550, Loading: []int{150, 200}, Price: 0},
		{Value: 550, Loading: []int{150, 200}, Price: 3},
		{Value: 550, Loading: []int{150, 200}, Price: -1},
		{Value: 552, Loading: []int{152, 200}, Price: 1},
		{Value: 550, Loading: []int{350, 100}, Price: 1},
		{Value: 550, Loading: []int{150}, Price: 1},
		{Value: 550, Loading: []int{150, 200, 0}, Price: 1},
		{Value: 550, Loading: nil, Price: 1},
		{Value: maxInt, Loading: []int{150, 200}, Price: 1},
		{Value: 550, Loading: []int{150, 200}, Price: maxInt},
		{Value: 550, Loading: []int{150, 200}, Price: minInt},
		{},
	} {
		equal(t, hull.CheckMost(example(), l, []int{1, 2}, p), api.ErrProof, p)
	}
	// With nothing left to choose each price proves, but for those out of range.
	one := loadOf(span(7, 7), span(3, 3), span(4, 4))
	for _, price := range []int{-api.MaxWeight, -1, 0, 2, api.MaxWeight} {
		equal(t, hull.CheckMost(example(), one, []int{1, 2}, api.Price{Value: 11, Loading: []int{3, 4}, Price: price}), api.OK, price)
	}
	for _, price := range []int{-api.MaxWeight - 1, api.MaxWeight + 1} {
		equal(t, hull.CheckMost(example(), one, []int{1, 2}, api.Price{Value: 11, Loading: []int{3, 4}, Price: price}), api.ErrProof, price)
	}
}

// P3.3: what is no form comes behind the errors of the load, but before a proof that is wrong.
func TestWrongForms(t *testing.T) {
	l := loadOf(span(300, 350), span(0, 400), span(100, 200))
	for _, form := range [][]int{nil, {1}, {1, 2, 3}, {api.MaxWeight + 1, 0}, {0, -api.MaxWeight - 1}, {maxInt, minInt}, make([]int, 9)} {
		p, e := hull.Most(example(), l, form)
		equal(t, e, api.ErrArg, form)
		equal(t, p.Value == 0 && len(p.Loading) == 0 && p.Price == 0, true, p, form)
		equal(t, hull.CheckMost(example(), l, form, api.Price{}), api.ErrArg, form)
		equal(t, hull.CheckMost(example(), l, form, api.Price{Value: 550, Loading: []int{150, 200}, Price: 1}), api.ErrArg, form)
	}
}

// P3.11
func TestLeastIsTheOppositeOfMost(t *testing.T) {
	forLoads(t, func(d *dice, s api.Ship, l api.Load) {
		form := d.form(s)
		var opposite []int
		for _, w := range form {
			opposite = append(opposite, -w)
		}
		var values []int
		for _, x := range loadingsOf(l) {
			values = append(values, worthByWords(form, x))
		}
		p, e := hull.Most(s, l, opposite)
		good(t, e, s, l, form)
		equal(t, -p.Value, slices.Min(values), s, l, form)
	})
}

// P3.11: no loading is worth more than what is accepted, whatever price accepts it.
func TestAcceptedPricesAreRight(t *testing.T) {
	accepted := 0
	forLoads(t, func(d *dice, s api.Ship, l api.Load) {
		form := d.form(s)
		all := loadingsOf(l)
		x := all[d.between(0, len(all)-1)]
		for price := -4; price <= 4; price++ {
			p := api.Price{Value: worthByWords(form, x), Loading: x, Price: price}
			if hull.CheckMost(s, l, form, p) != api.OK {
				continue
			}
			accepted++
			for _, y := range all {
				equal(t, worthByWords(form, y) <= p.Value, true, s, l, form, p, y)
			}
		}
	})
	if accepted < 100 {
		t.Error("too few prices were accepted", accepted)
	}
	forLarge(t, func(d *dice, s api.Ship, l api.Load) {
		form := d.form(s)
		p, e := hull.Most(s, l, form)
		good(t, e, s, l, form)
		for range 50 {
			x := d.loading(l)
			equal(t, worthByWords(form, x) <= p.Value, true, s, l, form, x)
		}
	})
}
