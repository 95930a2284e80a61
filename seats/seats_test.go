package seats_test

import (
	"math"
	"math/big"
	"math/bits"
	"math/rand"
	"slices"
	"testing"

	"selvedge/api"
	"selvedge/seats"
)

// P5.1: committees, by hand.
func TestCommittees(t *testing.T) {
	for _, x := range []struct {
		n                    int
		may                  bool
		faults, quorum, weak int
	}{
		{4, true, 1, 3, 2},
		{7, true, 2, 5, 3},
		{10, true, 3, 7, 4},
		{61, true, 20, 41, 21},
		{64, true, 21, 43, 22},
		{5, false, 0, 0, 0},
		{6, false, 0, 0, 0},
		{3, false, 0, 0, 0},
		{1, false, 0, 0, 0},
		{0, false, 0, 0, 0},
		{-2, false, 0, 0, 0},
		{65, false, 0, 0, 0},
		{67, false, 0, 0, 0},
		{math.MaxInt, false, 0, 0, 0},
		{math.MinInt, false, 0, 0, 0},
	} {
		if got := seats.May(x.n); got != x.may {
			t.Errorf("May(%d): %v", x.n, got)
		}
		if f, q, w := seats.Faults(x.n), seats.Quorum(x.n), seats.Weak(x.n); f != x.faults || q != x.quorum || w != x.weak {
			t.Errorf("%d: %d %d %d", x.n, f, q, w)
		}
	}
}

// P5.1: committees, each size around those that may be.
func TestAllCommittees(t *testing.T) {
	for n := -100; n <= 200; n++ {
		may := n >= 4 && n <= 64 && (n-1)%3 == 0
		f, q, w := 0, 0, 0
		if may {
			f = (n - 1) / 3
			q, w = 2*f+1, f+1
		}
		if seats.May(n) != may || seats.Faults(n) != f || seats.Quorum(n) != q || seats.Weak(n) != w {
			t.Errorf("%d: %v %d %d %d", n, seats.May(n), seats.Faults(n), seats.Quorum(n), seats.Weak(n))
		}
	}
}

// someSets are sets at the edges, and others.
func someSets() []uint64 {
	l := []uint64{0, 1, 2, 3, 5, 1 << 31, 1 << 32, 1 << 63, 1<<63 | 1, 1<<63 - 1, math.MaxUint64}
	r := rand.New(rand.NewSource(1))
	for range 200 {
		l = append(l, r.Uint64(), r.Uint64()&r.Uint64()&r.Uint64(), r.Uint64()>>r.Intn(64))
	}
	return l
}

// wrongIds are no seats.
func wrongIds() []int { return []int{0, -1, -63, -64, 65, 66, 128, 129, math.MaxInt, math.MinInt} }

// plainHas goes by whole numbers of any size.
func plainHas(set uint64, id int) bool {
	return new(big.Int).SetUint64(set).Bit(id-1) == 1
}

// P5.2: Put and Has.
func TestPutHas(t *testing.T) {
	for _, set := range someSets() {
		for id := 1; id <= 64; id++ {
			if seats.Has(set, id) != plainHas(set, id) {
				t.Fatalf("Has(%x, %d)", set, id)
			}
			with, e := seats.Put(set, id)
			if e != api.OK || with != new(big.Int).SetBit(new(big.Int).SetUint64(set), id-1, 1).Uint64() {
				t.Fatalf("Put(%x, %d): %x %d", set, id, with, e)
			}
		}
		for _, id := range wrongIds() {
			if seats.Has(set, id) {
				t.Errorf("Has(%x, %d)", set, id)
			}
			if with, e := seats.Put(set, id); with != 0 || e != api.ErrArg {
				t.Errorf("Put(%x, %d): %x %d", set, id, with, e)
			}
		}
	}
}

// P5.2: Count and List.
func TestCountList(t *testing.T) {
	if l := seats.List(5); !slices.Equal(l, []int{1, 3}) {
		t.Errorf("List(5): %v", l)
	}
	for _, set := range someSets() {
		var want []int
		for id := 1; id <= 64; id++ {
			if plainHas(set, id) {
				want = append(want, id)
			}
		}
		if l := seats.List(set); !slices.Equal(l, want) {
			t.Errorf("List(%x): %v", set, l)
		}
		if seats.Count(set) != bits.OnesCount64(set) {
			t.Errorf("Count(%x): %d", set, seats.Count(set))
		}
	}
}

// P5.2: Of.
func TestOf(t *testing.T) {
	for _, x := range []struct {
		l    []int
		want uint64
	}{
		{nil, 0},
		{[]int{}, 0},
		{[]int{1, 3}, 5},
		{[]int{3, 1, 64}, 1<<63 | 5},
		{[]int{2, 2, 2}, 2},
		{[]int{64}, 1 << 63},
	} {
		if set, e := seats.Of(x.l); set != x.want || e != api.OK {
			t.Errorf("Of(%v): %x %d", x.l, set, e)
		}
	}
	for _, id := range wrongIds() {
		for _, l := range [][]int{{id}, {1, id}, {id, 1}, {1, id, 64}} {
			if set, e := seats.Of(l); set != 0 || e != api.ErrArg {
				t.Errorf("Of(%v): %x %d", l, set, e)
			}
		}
	}
}

// P5.2: Within.
func TestWithin(t *testing.T) {
	for _, x := range []struct {
		set  uint64
		n    int
		want bool
	}{
		{5, 3, true}, {5, 2, false}, {1, 65, false},
		{0, 0, true}, {1, 0, false}, {1, 1, true}, {2, 1, false},
		{0, -1, false}, {0, 65, false}, {0, math.MaxInt, false}, {0, math.MinInt, false},
		{math.MaxUint64, 64, true}, {math.MaxUint64, 63, false}, {1 << 63, 64, true}, {1 << 63, 63, false}, {1<<63 - 1, 63, true},
	} {
		if seats.Within(x.set, x.n) != x.want {
			t.Errorf("Within(%x, %d)", x.set, x.n)
		}
	}
	for _, set := range someSets() {
		for n := -2; n < 70; n++ {
			want := n >= 0 && n <= 64 && bits.Len64(set) <= n
			if seats.Within(set, n) != want {
				t.Fatalf("Within(%x, %d)", set, n)
			}
		}
	}
}

// P5.3: how many seats two sets have in common: the least that may be, and such as chance makes.
func TestCommon(t *testing.T) {
	r := rand.New(rand.NewSource(2))
	pick := func(n, many int) uint64 {
		l := r.Perm(n)[:many]
		for i := range l {
			l[i]++
		}
		set, e := seats.Of(l)
		if e != api.OK || !seats.Within(set, n) || seats.Count(set) != many {
			t.Fatalf("Of(%v): %x %d", l, set, e)
		}
		return set
	}
	for n := 4; n <= 64; n += 3 {
		q, w := seats.Quorum(n), seats.Weak(n)
		if q+q-n < w || q+w-n < 1 || n-seats.Faults(n) < q {
			t.Errorf("%d: %d %d", n, q, w)
		}
		for range 50 {
			a, b, c := pick(n, q), pick(n, q), pick(n, w)
			if seats.Count(a&b) < w || a&c == 0 {
				t.Errorf("%d: %x %x %x", n, a, b, c)
			}
		}
	}
}

// P5.3: List and Of are inverse to one another.
func TestListOf(t *testing.T) {
	for _, set := range someSets() {
		l := seats.List(set)
		if back, e := seats.Of(l); back != set || e != api.OK {
			t.Errorf("%x: %v %x %d", set, l, back, e)
		}
		r := slices.Clone(l)
		slices.Reverse(r)
		back, _ := seats.Of(r)
		if !slices.Equal(seats.List(back), l) {
			t.Errorf("%v: %v", r, seats.List(back))
		}
	}
}
