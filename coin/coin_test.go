package coin_test

import (
	"crypto/sha256"
	"encoding/binary"
	"math"
	"math/rand"
	"slices"
	"strings"
	"testing"

	"selvedge/api"
	"selvedge/coin"
	"selvedge/digits"
	"selvedge/share"
)

const prime = 10007

// plainDeal goes by the words of the promise, with the library's digest.
func plainDeal(tape string, wave, many int) []api.Elem {
	var l []api.Elem
	for k := range many {
		s := sha256.Sum256([]byte("c" + digits.Text(tape) + digits.Num(uint64(wave)) + digits.Num(uint64(k))))
		l = append(l, api.Elem{A: int(binary.BigEndian.Uint32(s[:4]) % prime), B: int(binary.BigEndian.Uint32(s[4:8]) % prime)})
	}
	return l
}

// tapes are texts of all kinds.
func tapes() []string {
	return []string{"", "tape", "a", "\x00", "\xff\xff", strings.Repeat("t", 300)}
}

// P12.1: Deal.
func TestDeal(t *testing.T) {
	for _, tape := range tapes() {
		for _, wave := range []int{1, 2, 3, 255, 256, 1 << 20, 1<<20 + 1, math.MaxInt} {
			for _, x := range []struct{ n, many int }{{4, 2}, {7, 3}, {10, 4}, {64, 22}} {
				if l := coin.Deal(tape, wave, x.n); len(l) != x.many || !slices.Equal(l, plainDeal(tape, wave, x.many)) {
					t.Errorf("%q %d %d: %v", tape, wave, x.n, l)
				}
			}
		}
	}
	for _, wave := range []int{0, -1, math.MinInt} {
		if l := coin.Deal("tape", wave, 4); len(l) != 0 {
			t.Errorf("wave %d: %v", wave, l)
		}
	}
	for _, n := range []int{0, 1, 3, 5, 6, 67, -4, math.MaxInt, math.MinInt} {
		if l := coin.Deal("tape", 1, n); len(l) != 0 {
			t.Errorf("of %d: %v", n, l)
		}
	}
}

// P12.1: Own.
func TestOwn(t *testing.T) {
	for _, tape := range tapes() {
		for _, n := range []int{4, 7, 64} {
			for _, wave := range []int{1, 2, math.MaxInt} {
				poly := plainDeal(tape, wave, (n-1)/3+1)
				for _, id := range []int{1, 2, n, n + 1, 64} {
					want, _ := share.Of(poly, id)
					if v := coin.Own(tape, wave, n, id); v != want.V {
						t.Errorf("%q %d %d %d: %v", tape, wave, n, id, v)
					}
				}
			}
		}
	}
	for _, x := range []struct{ wave, n, id int }{{1, 4, 0}, {1, 4, -1}, {1, 4, 65}, {1, 4, math.MaxInt}, {0, 4, 1}, {-1, 4, 1}, {1, 5, 1}, {1, 0, 1}, {1, 67, 1}, {math.MinInt, math.MinInt, math.MinInt}} {
		if v := coin.Own("tape", x.wave, x.n, x.id); v != (api.Elem{}) {
			t.Errorf("%v: %v", x, v)
		}
	}
}

// P12.2: Fits.
func TestFits(t *testing.T) {
	zero := api.Elem{}
	own := func(wave, id int) api.Elem { return coin.Own("tape", wave, 4, id) }
	for i, x := range []struct {
		author, round int
		share         api.Elem
		n             int
		want          bool
	}{
		{1, 1, zero, 4, true},
		{1, 2, zero, 4, true},
		{1, 4, zero, 4, true},
		{1, 1, api.Elem{A: 1}, 4, false},
		{1, 2, own(1, 1), 4, false},
		{1, 0, zero, 4, true},
		{1, 0, own(1, 1), 4, false},
		{1, -3, zero, 4, true},
		{1, -3, own(1, 1), 4, false},
		{1, 3, own(1, 1), 4, true},
		{2, 3, own(1, 2), 4, true},
		{2, 3, own(1, 1), 4, false},
		{2, 3, own(2, 2), 4, false},
		{2, 6, own(2, 2), 4, true},
		{2, 6, own(1, 2), 4, false},
		{2, 3, zero, 4, false},
		{2, 3, own(1, 2), 7, false},
		{2, 3, zero, 5, true},
		{0, 3, zero, 4, true},
		{65, 3, zero, 4, true},
		{64, 3, own(1, 64), 4, true},
		{1, math.MaxInt - 1, own((math.MaxInt-1)/3, 1), 4, true},
		{1, math.MaxInt - 1, zero, 4, false},
		{1, math.MaxInt, zero, 4, true},
	} {
		if coin.Fits("tape", x.n, api.Vertex{Author: x.author, Round: x.round, Share: x.share}) != x.want {
			t.Errorf("%d", i)
		}
	}
	if coin.Fits("another", 4, api.Vertex{Author: 1, Round: 3, Share: own(1, 1)}) {
		t.Error("another tape")
	}
}

// P12.2: Leader.
func TestLeader(t *testing.T) {
	for _, x := range []struct {
		a, b, n, want int
	}{
		{0, 0, 4, 1}, {5, 2, 4, 2}, {0, 1, 4, 2}, {0, 3, 4, 4}, {0, 4, 4, 1}, {1, 0, 4, 4}, {1, 0, 7, 1 + 10007%7}, {10006, 10006, 64, 1 + (10006*10007+10006)%64}, {10006, 0, 10, 1 + 10006*10007%10},
		{0, 0, 5, 0}, {5, 2, 0, 0}, {5, 2, 67, 0}, {5, 2, -4, 0}, {5, 2, math.MaxInt, 0}, {5, 2, math.MinInt, 0},
		{-1, 0, 4, 0}, {0, -1, 4, 0}, {10007, 0, 4, 0}, {0, 10007, 4, 0}, {math.MaxInt, 0, 4, 0}, {0, math.MinInt, 4, 0},
	} {
		if got := coin.Leader(api.Elem{A: x.a, B: x.b}, x.n); got != x.want {
			t.Errorf("%v: %d", x, got)
		}
	}
}

// thirds are entries of the third round of a wave, with the shares that the tape gives the authors.
func thirds(tape string, wave, n int, authors ...int) []api.Entry {
	var l []api.Entry
	for _, a := range authors {
		l = append(l, api.Entry{V: api.Vertex{Author: a, Round: 3 * wave, Share: coin.Own(tape, wave, n, a)}})
	}
	return l
}

// P12.3: Reveal, each error, and which of several is named first.
func TestRevealErrors(t *testing.T) {
	l := thirds("tape", 1, 4, 1, 2, 3)
	bad := slices.Clone(l)
	bad[1].V.Share.A = prime
	wrongId := slices.Clone(l)
	wrongId[0].V.Author = 65
	noId := slices.Clone(l)
	noId[1].V.Author = 0
	for i, x := range []struct {
		n, wave int
		l       []api.Entry
		e       api.Errno
	}{
		{4, 0, l, api.ErrArg},
		{4, -1, l, api.ErrArg},
		{4, math.MinInt, l, api.ErrArg},
		{4, 1<<20 + 1, l, api.ErrArg},
		{4, math.MaxInt, l, api.ErrArg},
		{5, 1, l, api.ErrArg},
		{0, 1, l, api.ErrArg},
		{67, 1, l, api.ErrArg},
		{4, 1, nil, api.ErrBusy},
		{4, 1, l[:1], api.ErrBusy},
		{4, 2, l, api.ErrBusy},
		{4, 1 << 20, l, api.ErrBusy},
		{7, 1, l[:2], api.ErrBusy},
		{4, 1, bad[1:2], api.ErrBusy},
		{4, 1, bad, api.ErrArg},
		{4, 1, wrongId, api.ErrArg},
		{4, 1, noId, api.ErrArg},
		{4, 1, []api.Entry{l[0], l[0], l[1]}, api.ErrArg},
	} {
		if got, e := coin.Reveal(api.Dag{N: x.n, L: x.l}, x.wave); got != 0 || e != x.e {
			t.Errorf("%d: %d %d", i, got, e)
		}
	}
}

// P12.3: only the first Weak entries of the round count, in their order.
func TestRevealFirst(t *testing.T) {
	l := thirds("tape", 1, 4, 1, 2, 3)
	want := coin.Leader(plainDeal("tape", 1, 2)[0], 4)
	for i, l := range [][]api.Entry{
		l, l[:2], l[1:], {l[2], l[0]},
		{l[0], l[1], {V: api.Vertex{Author: 99, Round: 3, Share: api.Elem{A: -1}}}},
		{l[0], l[1], l[1], l[0]},
		{{V: api.Vertex{Author: 9, Round: 2}}, l[0], {V: api.Vertex{Author: 9, Round: 4}}, l[1], {V: api.Vertex{Author: 9, Round: 6}}},
	} {
		if got, e := coin.Reveal(api.Dag{N: 4, Low: 100, L: l}, 1); got != want || e != api.OK {
			t.Errorf("%d: %d %d, not %d", i, got, e, want)
		}
	}
	// With another share among the first ones, the secret is what these open.
	other := slices.Clone(l)
	other[1].V.Share = api.Elem{A: 7, B: 8}
	secret, _ := share.Open([]api.Share{{Id: 1, V: l[0].V.Share}, {Id: 2, V: api.Elem{A: 7, B: 8}}})
	if got, e := coin.Reveal(api.Dag{N: 4, L: other}, 1); got != coin.Leader(secret, 4) || e != api.OK {
		t.Errorf("%d %d", got, e)
	}
	if got, e := coin.Reveal(api.Dag{N: 4, L: thirds("tape", 1<<20, 4, 3, 4)}, 1<<20); got != coin.Leader(plainDeal("tape", 1<<20, 2)[0], 4) || e != api.OK {
		t.Errorf("the greatest wave: %d %d", got, e)
	}
}

// P12.4: any Weak shares of one tape reveal the same leader, that of the first coefficient; fewer reveal nothing.
func TestSameLeader(t *testing.T) {
	r := rand.New(rand.NewSource(1))
	for _, n := range []int{4, 7, 10, 64} {
		weak := (n-1)/3 + 1
		led := map[int]struct{}{}
		for wave := 1; wave <= 12; wave++ {
			want := coin.Leader(coin.Deal("tape", wave, n)[0], n)
			if want < 1 || want > n {
				t.Errorf("%d %d: %d", n, wave, want)
			}
			led[want] = struct{}{}
			for _, many := range []int{weak - 1, weak, weak + 1, n} {
				var authors []int
				for _, a := range r.Perm(n)[:many] {
					authors = append(authors, a+1)
				}
				got, e := coin.Reveal(api.Dag{N: n, L: thirds("tape", wave, n, authors...)}, wave)
				if many < weak && (got != 0 || e != api.ErrBusy) || many >= weak && (got != want || e != api.OK) {
					t.Errorf("%d of %d, wave %d: %d %d", many, n, wave, got, e)
				}
			}
		}
		if len(led) < 3 {
			t.Errorf("%d: few lead: %v", n, led)
		}
	}
}
