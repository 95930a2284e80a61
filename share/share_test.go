package share_test

import (
	"math"
	"math/rand"
	"slices"
	"testing"

	"selvedge/api"
	"selvedge/gauss"
	"selvedge/share"
)

const prime = 10007

func randomElem(r *rand.Rand) api.Elem { return api.Elem{A: r.Intn(prime), B: r.Intn(prime)} }

func randomPoly(r *rand.Rand, size int) []api.Elem {
	var l []api.Elem
	for range size {
		l = append(l, randomElem(r))
	}
	return l
}

// plainEval goes by the powers of x.
func plainEval(poly []api.Elem, x api.Elem) api.Elem {
	var sum api.Elem
	for k, c := range poly {
		sum = gauss.Add(sum, gauss.Mul(c, gauss.Pow(x, uint64(k))))
	}
	return sum
}

// wrongs are elements that are not valid.
func wrongs() []api.Elem {
	return []api.Elem{{A: -1}, {A: prime}, {B: -1}, {B: prime}, {A: math.MaxInt, B: 1}, {A: 1, B: math.MinInt}}
}

// wrongIds are no seats' numbers.
func wrongIds() []int { return []int{0, -1, 65, 1000, math.MaxInt, math.MinInt, prime + 1} }

// P4.1: Eval.
func TestEval(t *testing.T) {
	if v := share.Eval(nil, api.Elem{A: 7, B: 9}); v != (api.Elem{}) {
		t.Errorf("of nothing: %v", v)
	}
	if v := share.Eval([]api.Elem{{A: 5}, {A: 3}}, api.Elem{A: 2}); v != (api.Elem{A: 11}) {
		t.Errorf("%v", v)
	}
	if v := share.Eval([]api.Elem{{A: 5}, {A: 3}}, api.Elem{}); v != (api.Elem{A: 5}) {
		t.Errorf("at 0: %v", v)
	}
	if v := share.Eval([]api.Elem{{A: 1}, {}, {A: 1}}, api.Elem{B: 1}); v != (api.Elem{}) {
		t.Errorf("1 + x x at i: %v", v)
	}
	r := rand.New(rand.NewSource(1))
	for size := range 70 {
		poly, x := randomPoly(r, size), randomElem(r)
		if v := share.Eval(poly, x); v != plainEval(poly, x) {
			t.Errorf("%d coefficients: %v, not %v", size, v, plainEval(poly, x))
		}
	}
}

// P4.1: Eval of what is not valid is what the steps with Add and Mul lead to.
func TestEvalWrong(t *testing.T) {
	for _, w := range wrongs() {
		for _, x := range []struct {
			poly []api.Elem
			x    api.Elem
			want api.Elem
		}{
			{[]api.Elem{w}, api.Elem{A: 1}, api.Elem{}},
			{[]api.Elem{{A: 5}, w, {A: 3}}, api.Elem{A: 2}, api.Elem{A: 5}},
			{[]api.Elem{w, {A: 3}}, api.Elem{A: 2}, api.Elem{}},
			{[]api.Elem{{A: 5}, {A: 4}, w}, api.Elem{A: 2}, api.Elem{A: 13}},
			{[]api.Elem{{A: 5}, {A: 3}}, w, api.Elem{A: 5}},
			{nil, w, api.Elem{}},
		} {
			if v := share.Eval(x.poly, x.x); v != x.want {
				t.Errorf("Eval(%v, %v): %v", x.poly, x.x, v)
			}
		}
	}
}

// P4.1: Of.
func TestOf(t *testing.T) {
	poly := []api.Elem{{A: 5}, {A: 3}}
	for _, x := range []struct{ id, a int }{{1, 8}, {2, 11}, {64, 197}} {
		if s, e := share.Of(poly, x.id); s != (api.Share{Id: x.id, V: api.Elem{A: x.a}}) || e != api.OK {
			t.Errorf("Of %d: %v %d", x.id, s, e)
		}
	}
	if s, e := share.Of(nil, 3); s != (api.Share{Id: 3}) || e != api.OK {
		t.Errorf("of nothing: %v %d", s, e)
	}
	for _, id := range wrongIds() {
		if s, e := share.Of(poly, id); s != (api.Share{}) || e != api.ErrArg {
			t.Errorf("Of %d: %v %d", id, s, e)
		}
	}
	for _, w := range wrongs() {
		for _, poly := range [][]api.Elem{{w}, {{A: 5}, w}, {w, {A: 5}}, {{A: 5}, w, {A: 3}}} {
			if s, e := share.Of(poly, 1); s != (api.Share{}) || e != api.ErrArg {
				t.Errorf("Of %v: %v %d", poly, s, e)
			}
		}
	}
}

// plainWeight goes factor by factor, each with an inverse of its own.
func plainWeight(l []api.Share, k int) api.Elem {
	w := api.Elem{A: 1}
	for j, s := range l {
		if j != k {
			i, _ := gauss.Inv(gauss.Sub(api.Elem{A: s.Id}, api.Elem{A: l[k].Id}))
			w = gauss.Mul(w, gauss.Mul(api.Elem{A: s.Id}, i))
		}
	}
	return w
}

// sharesOf are those of the seats of ids.
func sharesOf(t *testing.T, poly []api.Elem, ids []int) []api.Share {
	var l []api.Share
	for _, id := range ids {
		s, e := share.Of(poly, id)
		if e != api.OK {
			t.Fatalf("Of %d: %d", id, e)
		}
		l = append(l, s)
	}
	return l
}

// someIds are many different numbers of seats, in any order.
func someIds(r *rand.Rand, many int) []int {
	l := r.Perm(64)[:many]
	for i := range l {
		l[i]++
	}
	return l
}

// P4.2: Weight. What the shares' values are does not matter to it.
func TestWeight(t *testing.T) {
	two := []api.Share{{Id: 1, V: api.Elem{A: -1}}, {Id: 2}}
	if w, e := share.Weight(two, 0); w != (api.Elem{A: 2}) || e != api.OK {
		t.Errorf("%v %d", w, e)
	}
	if w, e := share.Weight(two, 1); w != (api.Elem{A: 10006}) || e != api.OK {
		t.Errorf("%v %d", w, e)
	}
	if w, e := share.Weight([]api.Share{{Id: 9}}, 0); w != (api.Elem{A: 1}) || e != api.OK {
		t.Errorf("of one: %v %d", w, e)
	}
	r := rand.New(rand.NewSource(2))
	for _, many := range []int{2, 3, 5, 22, 64} {
		l := sharesOf(t, nil, someIds(r, many))
		for k := range l {
			if w, e := share.Weight(l, k); w != plainWeight(l, k) || e != api.OK {
				t.Errorf("%d of %d: %v %d", k, many, w, e)
			}
		}
	}
}

// P4.2: Weight, each error.
func TestWeightErrors(t *testing.T) {
	four := []api.Share{{Id: 1}, {Id: 2}, {Id: 3}, {Id: 4}}
	for _, k := range []int{4, 5, -1, math.MaxInt, math.MinInt} {
		if w, e := share.Weight(four, k); w != (api.Elem{}) || e != api.ErrArg {
			t.Errorf("Weight %d: %v %d", k, w, e)
		}
	}
	if w, e := share.Weight(nil, 0); w != (api.Elem{}) || e != api.ErrArg {
		t.Errorf("of none: %v %d", w, e)
	}
	for _, l := range wrongLists() {
		for k := range l {
			if w, e := share.Weight(l, k); w != (api.Elem{}) || e != api.ErrArg {
				t.Errorf("Weight(%v, %d): %v %d", l, k, w, e)
			}
		}
	}
}

// wrongLists have a number that may not be, or one twice.
func wrongLists() [][]api.Share {
	l := [][]api.Share{
		{{Id: 1}, {Id: 1}},
		{{Id: 2}, {Id: 1}, {Id: 2}},
		{{Id: 3}, {Id: 64}, {Id: 64}},
		{{Id: 1, V: api.Elem{A: 1}}, {Id: 1, V: api.Elem{A: 2}}},
	}
	for _, id := range wrongIds() {
		l = append(l, []api.Share{{Id: id}}, []api.Share{{Id: 1}, {Id: id}}, []api.Share{{Id: id}, {Id: 1}})
	}
	var many []api.Share
	for i := range 65 {
		many = append(many, api.Share{Id: i%64 + 1})
	}
	return append(l, many)
}

// P4.2: Open.
func TestOpen(t *testing.T) {
	l := []api.Share{{Id: 1, V: api.Elem{A: 8}}, {Id: 2, V: api.Elem{A: 11}}}
	if s, e := share.Open(l); s != (api.Elem{A: 5}) || e != api.OK {
		t.Errorf("%v %d", s, e)
	}
	if s, e := share.Open([]api.Share{{Id: 7, V: api.Elem{A: 3, B: 4}}}); s != (api.Elem{A: 3, B: 4}) || e != api.OK {
		t.Errorf("one: %v %d", s, e)
	}
	r := rand.New(rand.NewSource(3))
	for range 50 {
		l := sharesOf(t, nil, someIds(r, 1+r.Intn(30)))
		var want api.Elem
		for k := range l {
			l[k].V = randomElem(r)
			want = gauss.Add(want, gauss.Mul(l[k].V, plainWeight(l, k)))
		}
		before := slices.Clone(l)
		if s, e := share.Open(l); s != want || e != api.OK {
			t.Errorf("Open(%v): %v %d, not %v", l, s, e, want)
		}
		if !slices.Equal(l, before) {
			t.Errorf("changed: %v", l)
		}
	}
}

// P4.2: Open, each error.
func TestOpenErrors(t *testing.T) {
	lists := append(wrongLists(), nil, []api.Share{})
	for _, w := range wrongs() {
		lists = append(lists, []api.Share{{Id: 1, V: w}}, []api.Share{{Id: 1}, {Id: 2, V: w}}, []api.Share{{Id: 1, V: w}, {Id: 2}})
	}
	for _, l := range lists {
		if s, e := share.Open(l); s != (api.Elem{}) || e != api.ErrArg {
			t.Errorf("Open(%v): %v %d", l, s, e)
		}
	}
}

// P4.3: as many shares as there are coefficients, or more, in any order, open the secret.
func TestEnoughOpen(t *testing.T) {
	r := rand.New(rand.NewSource(4))
	for n := 1; n <= 64; n++ {
		poly := randomPoly(r, n)
		for _, many := range []int{n, min(n+1, 64), 64} {
			l := sharesOf(t, poly, someIds(r, many))
			if s, e := share.Open(l); s != poly[0] || e != api.OK {
				t.Errorf("%d shares of %d coefficients: %v %d, not %v", many, n, s, e, poly[0])
			}
		}
	}
}

// P4.3: with one share less, every secret goes with the shares: the one at 0 is a point like the others.
func TestFewerTellNothing(t *testing.T) {
	r := rand.New(rand.NewSource(5))
	for _, n := range []int{2, 3, 5, 22} {
		poly := randomPoly(r, n)
		l := sharesOf(t, poly, someIds(r, n-1))
		for range 5 {
			secret := randomElem(r)
			// A further share that makes this the secret: V of it is what is left, divided by its weight.
			last := api.Share{Id: 1}
			for slices.ContainsFunc(l, func(s api.Share) bool { return s.Id == last.Id }) {
				last.Id++
			}
			all := append(slices.Clone(l), last)
			rest, _ := share.Open(all)
			w, _ := share.Weight(all, n-1)
			i, _ := gauss.Inv(w)
			all[n-1].V = gauss.Mul(gauss.Sub(secret, rest), i)
			if s, e := share.Open(all); s != secret || e != api.OK {
				t.Errorf("%v %d, not %v", s, e, secret)
			}
		}
	}
}
