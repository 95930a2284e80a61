package gauss_test

import (
	"math"
	"math/big"
	"math/rand"
	"testing"

	"selvedge/api"
	"selvedge/gauss"
)

const prime = 10007

// some are elements at the edges, and others.
func some() []api.Elem {
	parts := []int{0, 1, 2, 3, 4, 5003, 5004, 10005, 10006}
	var l []api.Elem
	for _, a := range parts {
		for _, b := range parts {
			l = append(l, api.Elem{A: a, B: b})
		}
	}
	r := rand.New(rand.NewSource(1))
	for range 60 {
		l = append(l, api.Elem{A: r.Intn(prime), B: r.Intn(prime)})
	}
	return l
}

// wrong are elements that are not valid.
func wrong() []api.Elem {
	var l []api.Elem
	for _, p := range []int{-1, -prime, prime, prime + 1, 2 * prime, math.MaxInt, math.MinInt} {
		l = append(l, api.Elem{A: p}, api.Elem{B: p}, api.Elem{A: p, B: p}, api.Elem{A: 1, B: p}, api.Elem{A: p, B: 1})
	}
	return l
}

// left is what is left over.
func left(v *big.Int) int { return int(new(big.Int).Mod(v, big.NewInt(prime)).Int64()) }

func whole(v int) *big.Int { return big.NewInt(int64(v)) }

func plainAdd(x, y api.Elem) api.Elem {
	return api.Elem{A: (x.A + y.A) % prime, B: (x.B + y.B) % prime}
}

func plainSub(x, y api.Elem) api.Elem {
	return api.Elem{A: (x.A - y.A + prime) % prime, B: (x.B - y.B + prime) % prime}
}

func plainMul(x, y api.Elem) api.Elem {
	re := new(big.Int).Sub(new(big.Int).Mul(whole(x.A), whole(y.A)), new(big.Int).Mul(whole(x.B), whole(y.B)))
	im := new(big.Int).Add(new(big.Int).Mul(whole(x.A), whole(y.B)), new(big.Int).Mul(whole(x.B), whole(y.A)))
	return api.Elem{A: left(re), B: left(im)}
}

// P3.1: May.
func TestMay(t *testing.T) {
	for _, x := range some() {
		if !gauss.May(x) {
			t.Errorf("%v", x)
		}
	}
	for _, x := range wrong() {
		if gauss.May(x) {
			t.Errorf("%v", x)
		}
	}
}

// P3.1: Of.
func TestOf(t *testing.T) {
	for _, x := range []struct {
		v uint64
		e api.Elem
	}{
		{0, api.Elem{}},
		{1, api.Elem{A: 1}},
		{10006, api.Elem{A: 10006}},
		{10007, api.Elem{B: 1}},
		{10008, api.Elem{A: 1, B: 1}},
		{prime*prime - 1, api.Elem{A: 10006, B: 10006}},
		{prime * prime, api.Elem{}},
		{prime*prime + 5, api.Elem{A: 5}},
	} {
		if e := gauss.Of(x.v); e != x.e {
			t.Errorf("Of(%d): %v", x.v, e)
		}
	}
	r := rand.New(rand.NewSource(2))
	l := []uint64{math.MaxUint64, math.MaxInt64, math.MaxInt64 + 1}
	for range 500 {
		l = append(l, r.Uint64()>>r.Intn(64))
	}
	for _, v := range l {
		n := new(big.Int).SetUint64(v)
		want := api.Elem{A: left(n), B: left(new(big.Int).Div(n, whole(prime)))}
		if e := gauss.Of(v); e != want {
			t.Errorf("Of(%d): %v, not %v", v, e, want)
		}
	}
}

// P3.1: sums, differences and products, by hand, and held against another way.
func TestOperations(t *testing.T) {
	i := api.Elem{B: 1}
	if p := gauss.Mul(i, i); p != (api.Elem{A: 10006}) {
		t.Errorf("i times i: %v", p)
	}
	if s := gauss.Add(api.Elem{A: 10006, B: 10006}, api.Elem{A: 1, B: 2}); s != (api.Elem{B: 1}) {
		t.Errorf("sum: %v", s)
	}
	if d := gauss.Sub(api.Elem{A: 1}, api.Elem{A: 2, B: 1}); d != (api.Elem{A: 10006, B: 10006}) {
		t.Errorf("difference: %v", d)
	}
	for _, x := range some() {
		for _, y := range some() {
			if s := gauss.Add(x, y); s != plainAdd(x, y) {
				t.Fatalf("Add(%v, %v): %v", x, y, s)
			}
			if d := gauss.Sub(x, y); d != plainSub(x, y) {
				t.Fatalf("Sub(%v, %v): %v", x, y, d)
			}
			if p := gauss.Mul(x, y); p != plainMul(x, y) {
				t.Fatalf("Mul(%v, %v): %v", x, y, p)
			}
		}
	}
}

// P3.1: Pow.
func TestPow(t *testing.T) {
	for _, x := range some() {
		want := api.Elem{A: 1}
		for n := range uint64(70) {
			if p := gauss.Pow(x, n); p != want {
				t.Fatalf("Pow(%v, %d): %v, not %v", x, n, p, want)
			}
			want = plainMul(want, x)
		}
	}
	if p := gauss.Pow(api.Elem{}, 0); p != (api.Elem{A: 1}) {
		t.Errorf("0 to the power of 0: %v", p)
	}
	// The powers of an element other than 0 repeat after so many.
	const turn = prime*prime - 1
	for _, n := range []uint64{math.MaxUint64, 1 << 63, 1<<63 + 1, 1<<40 + 7} {
		for _, x := range some() {
			if gauss.Pow(x, n) != gauss.Pow(x, n%turn+turn) {
				t.Errorf("Pow(%v, %d): %v", x, n, gauss.Pow(x, n))
			}
		}
	}
}

// P3.1: Norm.
func TestNorm(t *testing.T) {
	if n := gauss.Norm(api.Elem{A: 3, B: 4}); n != 25 {
		t.Errorf("%d", n)
	}
	for _, x := range some() {
		if n := gauss.Norm(x); n != (x.A*x.A+x.B*x.B)%prime {
			t.Errorf("Norm(%v): %d", x, n)
		}
	}
}

// P3.1, P3.2: what an element that is not valid leads to.
func TestWrong(t *testing.T) {
	zero, one := api.Elem{}, api.Elem{A: 1}
	for _, x := range wrong() {
		for _, y := range []api.Elem{one, {A: 3, B: 4}, zero, x} {
			for _, r := range []api.Elem{gauss.Add(x, y), gauss.Add(y, x), gauss.Sub(x, y), gauss.Sub(y, x), gauss.Mul(x, y), gauss.Mul(y, x)} {
				if r != zero {
					t.Errorf("%v and %v: %v", x, y, r)
				}
			}
		}
		for _, n := range []uint64{0, 1, 2, math.MaxUint64} {
			if p := gauss.Pow(x, n); p != zero {
				t.Errorf("Pow(%v, %d): %v", x, n, p)
			}
		}
		if n := gauss.Norm(x); n != 0 {
			t.Errorf("Norm(%v): %d", x, n)
		}
		if i, e := gauss.Inv(x); i != zero || e != api.ErrArg {
			t.Errorf("Inv(%v): %v %d", x, i, e)
		}
	}
}

// P3.2: Inv.
func TestInv(t *testing.T) {
	if i, e := gauss.Inv(api.Elem{}); i != (api.Elem{}) || e != api.ErrArg {
		t.Errorf("of 0: %v %d", i, e)
	}
	for _, x := range []struct{ x, want api.Elem }{
		{api.Elem{A: 1}, api.Elem{A: 1}},
		{api.Elem{A: 2}, api.Elem{A: 5004}},
		{api.Elem{A: 10006}, api.Elem{A: 10006}},
		{api.Elem{B: 1}, api.Elem{B: 10006}},
		{api.Elem{B: 10006}, api.Elem{B: 1}},
	} {
		if i, e := gauss.Inv(x.x); i != x.want || e != api.OK {
			t.Errorf("Inv(%v): %v %d", x.x, i, e)
		}
	}
	l := some()
	for a := 1; a < prime; a += 7 {
		l = append(l, api.Elem{A: a}, api.Elem{B: a}, api.Elem{A: a, B: prime - a})
	}
	for _, x := range l {
		if x == (api.Elem{}) {
			continue
		}
		if i, e := gauss.Inv(x); e != api.OK || !gauss.May(i) || plainMul(x, i) != (api.Elem{A: 1}) {
			t.Errorf("Inv(%v): %v %d", x, i, e)
		}
	}
}

// P3.3: the laws.
func TestLaws(t *testing.T) {
	r := rand.New(rand.NewSource(3))
	pick := func() api.Elem { return api.Elem{A: r.Intn(prime), B: r.Intn(prime)} }
	for range 3000 {
		x, y, z := pick(), pick(), pick()
		if gauss.Add(x, y) != gauss.Add(y, x) || gauss.Mul(x, y) != gauss.Mul(y, x) {
			t.Fatalf("commutative: %v %v", x, y)
		}
		if gauss.Add(gauss.Add(x, y), z) != gauss.Add(x, gauss.Add(y, z)) || gauss.Mul(gauss.Mul(x, y), z) != gauss.Mul(x, gauss.Mul(y, z)) {
			t.Fatalf("associative: %v %v %v", x, y, z)
		}
		if gauss.Mul(x, gauss.Add(y, z)) != gauss.Add(gauss.Mul(x, y), gauss.Mul(x, z)) {
			t.Fatalf("distributive: %v %v %v", x, y, z)
		}
		if gauss.Norm(gauss.Mul(x, y)) != gauss.Norm(x)*gauss.Norm(y)%prime {
			t.Fatalf("norms: %v %v", x, y)
		}
		if gauss.Sub(gauss.Add(x, y), y) != x {
			t.Fatalf("difference: %v %v", x, y)
		}
	}
	for _, x := range some() {
		if p := gauss.Pow(x, prime); p != (api.Elem{A: x.A, B: (prime - x.B) % prime}) {
			t.Errorf("Pow(%v, Prime): %v", x, p)
		}
		if x != (api.Elem{}) {
			i, _ := gauss.Inv(x)
			if j, e := gauss.Inv(i); j != x || e != api.OK {
				t.Errorf("Inv of Inv(%v): %v %d", x, j, e)
			}
		}
	}
}
