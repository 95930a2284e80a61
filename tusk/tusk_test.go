package tusk_test

import (
	"math"
	"math/rand"
	"slices"
	"strings"
	"testing"

	"selvedge/api"
	"selvedge/coin"
	"selvedge/dag"
	"selvedge/tusk"
	"selvedge/vertex"
)

func sameEntry(a, b api.Entry) bool { return a.Digest == b.Digest && vertex.Same(a.V, b.V) }

func sameEntries(a, b []api.Entry) bool { return slices.EqualFunc(a, b, sameEntry) }

// made is a vertex over the entries, with the share that the tape gives its author.
func made(tape string, n, author, round int, l []api.Entry) api.Vertex {
	v := api.Vertex{Author: author, Round: round}
	for _, x := range l {
		v.Parents = append(v.Parents, x.Digest)
	}
	slices.Sort(v.Parents)
	if round%3 == 0 {
		v.Share = coin.Own(tape, round/3, n, author)
	}
	return v
}

// add is Add of what may be added.
func add(t *testing.T, d api.Dag, v api.Vertex) api.Dag {
	next, e := dag.Add(d, v)
	if e != api.OK {
		t.Fatalf("Add(%v): %d", v, e)
	}
	return next
}

// full is a DAG in which all seats have a vertex over all others in each of the rounds.
func full(t *testing.T, tape string, n, rounds int) api.Dag {
	d := api.Dag{N: n}
	for r := 1; r <= rounds; r++ {
		before := dag.Round(d, r-1)
		for a := 1; a <= n; a++ {
			d = add(t, d, made(tape, n, a, r, before))
		}
	}
	return d
}

// sparse is a valid DAG in which each vertex has a quorum of parents that chance picks, and not every seat is there in each round.
func sparse(t *testing.T, r *rand.Rand, tape string, n, rounds int) api.Dag {
	d := api.Dag{N: n}
	quorum := n - (n-1)/3
	for round := 1; round <= rounds; round++ {
		before := dag.Round(d, round-1)
		for _, a := range r.Perm(n)[:quorum+r.Intn(n-quorum+1)] {
			var l []api.Entry
			for _, i := range r.Perm(len(before))[:min(quorum, len(before))] {
				l = append(l, before[i])
			}
			d = add(t, d, made(tape, n, a+1, round, l))
		}
	}
	return d
}

// leader is who leads a wave by the tape.
func leader(tape string, wave, n int) int { return coin.Leader(coin.Deal(tape, wave, n)[0], n) }

// fit is a tape by which the waves have these leaders, in a committee of 4.
func fit(t *testing.T, leaders ...int) string {
	for i := range 100000 {
		tape := strings.Repeat("t", i%9) + string(rune(i+1))
		ok := true
		for w, want := range leaders {
			ok = ok && leader(tape, w+1, 4) == want
		}
		if ok {
			return tape
		}
	}
	t.Fatal("no such tape")
	return ""
}

// P13.1: First.
func TestFirst(t *testing.T) {
	d := full(t, "tape", 4, 7)
	for wave := 1; wave <= 2; wave++ {
		want, _ := dag.By(d, leader("tape", wave, 4), 3*wave-2)
		if x, e := tusk.First(d, wave); e != api.OK || !sameEntry(x, want) || x.V.Round != 3*wave-2 {
			t.Errorf("%d: %v %d", wave, x, e)
		}
	}
	who := leader("tape", 1, 4)
	without := slices.DeleteFunc(slices.Clone(d.L), func(x api.Entry) bool { return x.V.Round == 1 && x.V.Author == who })
	for i, x := range []struct {
		d    api.Dag
		wave int
		e    api.Errno
	}{
		{d, 0, api.ErrArg},
		{d, -1, api.ErrArg},
		{d, math.MinInt, api.ErrArg},
		{d, 1<<20 + 1, api.ErrArg},
		{d, math.MaxInt, api.ErrArg},
		{api.Dag{N: 5, L: d.L}, 1, api.ErrArg},
		{api.Dag{}, 1, api.ErrArg},
		{d, 3, api.ErrBusy},
		{d, 1 << 20, api.ErrBusy},
		{api.Dag{N: 4}, 1, api.ErrBusy},
		{api.Dag{N: 4, L: d.L[:8]}, 1, api.ErrBusy},
		{api.Dag{N: 4, L: d.L[:9]}, 1, api.ErrBusy},
		{api.Dag{N: 4, L: without}, 1, api.ErrNone},
		{api.Dag{N: 4, L: d.L[4:]}, 1, api.ErrNone},
		{dag.Drop(d, 1), 1, api.ErrNone},
		{dag.Drop(d, 3), 1, api.ErrBusy},
	} {
		if got, e := tusk.First(x.d, x.wave); !sameEntry(got, api.Entry{}) || e != x.e {
			t.Errorf("%d: %v %d", i, got, e)
		}
	}
	if x, e := tusk.First(api.Dag{N: 4, L: d.L[:10]}, 1); e != api.OK || x.V.Author != who {
		t.Errorf("two shares are enough: %v %d", x, e)
	}
}

// P13.1: Support.
func TestSupport(t *testing.T) {
	d := full(t, "tape", 4, 3)
	for i, x := range d.L {
		want := 4
		if i >= 8 {
			want = 0
		}
		if got := tusk.Support(d, x); got != want {
			t.Errorf("%d: %d", i, got)
		}
	}
	odd := api.Dag{L: []api.Entry{
		{V: api.Vertex{Round: 2, Parents: []string{"a", "a"}}},
		{V: api.Vertex{Round: 2, Parents: []string{"b"}}},
		{V: api.Vertex{Round: 2, Parents: []string{"b", "a"}}},
		{V: api.Vertex{Round: 3, Parents: []string{"a"}}},
		{V: api.Vertex{Round: math.MinInt, Parents: []string{"a"}}},
		{V: api.Vertex{Round: 1, Parents: []string{"a"}}},
	}}
	for _, x := range []struct {
		digest      string
		round, want int
	}{{"a", 1, 2}, {"b", 1, 2}, {"c", 1, 0}, {"", 1, 0}, {"a", 2, 1}, {"a", 0, 1}, {"a", 3, 0}, {"a", math.MaxInt, 1}, {"b", math.MaxInt, 0}} {
		if got := tusk.Support(odd, api.Entry{Digest: x.digest, V: api.Vertex{Round: x.round}}); got != x.want {
			t.Errorf("%v: %d", x, got)
		}
	}
}

// supported is a DAG of three rounds in which only so many vertices of round 2 stand over the first one of the seat 1.
func supported(t *testing.T, tape string, many int) api.Dag {
	d := full(t, tape, 4, 1)
	first := d.L
	for a := 1; a <= 4; a++ {
		l := first
		if a > many {
			l = first[1:]
		}
		d = add(t, d, made(tape, 4, a, 2, l))
	}
	before := dag.Round(d, 2)
	for a := 1; a <= 4; a++ {
		d = add(t, d, made(tape, 4, a, 3, before))
	}
	return d
}

// P13.1: Decided: the errors of First, and the support that is needed.
func TestDecided(t *testing.T) {
	tape := fit(t, 1)
	for many := 0; many <= 4; many++ {
		d := supported(t, tape, many)
		x, e := tusk.Decided(d, 1)
		if many < 2 && (e != api.ErrBusy || !sameEntry(x, api.Entry{})) || many >= 2 && (e != api.OK || !sameEntry(x, d.L[0])) {
			t.Errorf("%d: %v %d", many, x, e)
		}
		if got := tusk.Support(d, d.L[0]); got != many {
			t.Errorf("%d: %d", many, got)
		}
	}
	d := supported(t, tape, 4)
	for i, x := range []struct {
		d    api.Dag
		wave int
		e    api.Errno
	}{
		{d, 0, api.ErrArg}, {d, 1<<20 + 1, api.ErrArg}, {api.Dag{N: 5, L: d.L}, 1, api.ErrArg},
		{d, 2, api.ErrBusy}, {api.Dag{N: 4, L: d.L[:4]}, 1, api.ErrBusy}, {api.Dag{N: 4, L: d.L[1:]}, 1, api.ErrNone},
	} {
		if got, e := tusk.Decided(x.d, x.wave); !sameEntry(got, api.Entry{}) || e != x.e {
			t.Errorf("%d: %v %d", i, got, e)
		}
	}
}

// P13.1: Top.
func TestTop(t *testing.T) {
	for _, x := range []struct {
		rounds []int
		want   int
	}{
		{nil, 0}, {[]int{1}, 1}, {[]int{3}, 1}, {[]int{4}, 2}, {[]int{1, 2, 3, 4, 5, 6, 7}, 3}, {[]int{7, 1}, 3}, {[]int{0, -5, math.MinInt}, 0}, {[]int{-1, 2, -9}, 1}, {[]int{5, math.MaxInt, 5}, 3074457345618258603},
	} {
		var d api.Dag
		for _, r := range x.rounds {
			d.L = append(d.L, api.Entry{V: api.Vertex{Round: r}})
		}
		if got := tusk.Top(d); got != x.want {
			t.Errorf("%v: %d", x.rounds, got)
		}
	}
}

// P13.2: Chain of full DAGs.
func TestChainFull(t *testing.T) {
	for rounds := range 11 {
		d := full(t, "tape", 4, rounds)
		for last := -2; last <= 5; last++ {
			var want []api.Entry
			end := last
			for wave := max(last+1, 1); wave <= rounds/3; wave++ {
				x, _ := dag.By(d, leader("tape", wave, 4), 3*wave-2)
				want, end = append(want, x), wave
			}
			if got, w := tusk.Chain(d, last); !sameEntries(got, want) || w != end {
				t.Errorf("%d rounds after %d: %d leaders, %d", rounds, last, len(got), w)
			}
		}
		for _, last := range []int{math.MaxInt, math.MinInt, 1 << 20} {
			got, w := tusk.Chain(d, last)
			if last == math.MinInt && rounds >= 3 {
				if len(got) != rounds/3 || w != rounds/3 {
					t.Errorf("%d: %d %d", last, len(got), w)
				}
			} else if len(got) != 0 || w != last {
				t.Errorf("%d: %d %d", last, len(got), w)
			}
		}
	}
}

// P13.2: a wave whose leader is not decided is committed later, if there is a path to it, and passed over if there is none.
func TestChainSkips(t *testing.T) {
	for many := 0; many <= 2; many++ {
		tape := fit(t, 1, 2)
		d := supported(t, tape, many)
		for r := 4; r <= 6; r++ {
			before := dag.Round(d, r-1)
			for a := 1; a <= 4; a++ {
				d = add(t, d, made(tape, 4, a, r, before))
			}
		}
		one, two := d.L[0], dag.Round(d, 4)[1]
		early := api.Dag{N: 4, L: d.L[:12]}
		got, w := tusk.Chain(early, 0)
		if many < 2 && (len(got) != 0 || w != 0) || many == 2 && (!sameEntries(got, []api.Entry{one}) || w != 1) {
			t.Errorf("%d, early: %v %d", many, got, w)
		}
		want := []api.Entry{one, two}
		if many == 0 {
			want = want[1:]
		}
		if got, w := tusk.Chain(d, 0); !sameEntries(got, want) || w != 2 {
			t.Errorf("%d: %v %d", many, got, w)
		}
		if got, w := tusk.Chain(d, 1); !sameEntries(got, []api.Entry{two}) || w != 2 {
			t.Errorf("%d, after 1: %v %d", many, got, w)
		}
	}
}

// P13.2: the path to a leader begins at the one that comes next in the order, not at the last one of all.
func TestChainCurrent(t *testing.T) {
	tape := fit(t, 1, 2, 3)
	d := full(t, tape, 4, 1)
	row := func(r int, parents func(author int, before []api.Entry) []api.Entry) {
		before := dag.Round(d, r-1)
		for a := 1; a <= 4; a++ {
			d = add(t, d, made(tape, 4, a, r, parents(a, before)))
		}
	}
	// Down from the leader of the wave 2 there is no way to that of the wave 1: only the seat 4 stands over it, and then only the seat 1 over that.
	row(2, func(a int, before []api.Entry) []api.Entry { return before[1-a/4:] })
	row(3, func(a int, before []api.Entry) []api.Entry {
		if a == 1 {
			return before
		}
		return before[:3]
	})
	row(4, func(a int, before []api.Entry) []api.Entry {
		if a == 2 {
			return before[1:]
		}
		return before
	})
	for r := 5; r <= 9; r++ {
		row(r, func(_ int, before []api.Entry) []api.Entry { return before })
	}
	one, two, three := d.L[0], dag.Round(d, 4)[1], dag.Round(d, 7)[2]
	if !dag.Path(d, three.Digest, one.Digest) || !dag.Path(d, three.Digest, two.Digest) || dag.Path(d, two.Digest, one.Digest) {
		t.Fatal("not the DAG that was meant")
	}
	if got, w := tusk.Chain(d, 0); !sameEntries(got, []api.Entry{two, three}) || w != 3 {
		t.Errorf("%d leaders, %d", len(got), w)
	}
	// The order of the entries does not tell the order of the waves.
	turned := api.Dag{N: 4, L: slices.Clone(d.L)}
	slices.Reverse(turned.L)
	if got, w := tusk.Chain(turned, 0); !sameEntries(got, []api.Entry{two, three}) || w != 3 {
		t.Errorf("turned: %d leaders, %d", len(got), w)
	}
}

// plainChain goes by the words of the promise, wave by wave.
func plainChain(d api.Dag, last int) ([]api.Entry, int) {
	w := min(tusk.Top(d), 1<<20)
	for ; w > max(last, 0); w-- {
		if _, e := tusk.Decided(d, w); e == api.OK {
			break
		}
	}
	if w <= max(last, 0) {
		return nil, last
	}
	current, _ := tusk.Decided(d, w)
	l := []api.Entry{current}
	for wave := w - 1; wave > max(last, 0); wave-- {
		if x, e := tusk.First(d, wave); e == api.OK && dag.Path(d, current.Digest, x.Digest) {
			l, current = slices.Insert(l, 0, x), x
		}
	}
	return l, w
}

// shuffled are the entries in any order.
func shuffled(r *rand.Rand, l []api.Entry) []api.Entry {
	l = slices.Clone(l)
	r.Shuffle(len(l), func(i, j int) { l[i], l[j] = l[j], l[i] })
	return l
}

// P13.2: Chain, in sparse DAGs, whole, in part, dropped and out of order, held against the other way.
func TestChainPlain(t *testing.T) {
	r := rand.New(rand.NewSource(1))
	lengths := map[int]int{}
	for i := range 40 {
		n := []int{4, 7}[i%2]
		whole := sparse(t, r, string(rune('a'+i)), n, 13)
		for _, d := range []api.Dag{whole, {N: n, L: whole.L[:len(whole.L)*2/3]}, dag.Drop(whole, 1+r.Intn(6)), {N: n, L: slices.Delete(slices.Clone(whole.L), 3, 6)}, {N: n, L: shuffled(r, whole.L)}} {
			for last := -1; last <= 5; last++ {
				want, end := plainChain(d, last)
				got, w := tusk.Chain(d, last)
				if !sameEntries(got, want) || w != end {
					t.Fatalf("%d after %d: %v %d, not %v %d", i, last, got, w, want, end)
				}
				lengths[len(got)]++
			}
		}
	}
	if len(lengths) < 4 {
		t.Errorf("%v", lengths)
	}
}

// P13.2, R1: rounds without any bound do not keep Chain from its end.
func TestChainEnds(t *testing.T) {
	d := full(t, "tape", 4, 3)
	for _, round := range []int{math.MaxInt, math.MaxInt - 1, 3<<20 + 3, math.MinInt, -3} {
		far := d
		for a := 1; a <= 4; a++ {
			far.L = append(slices.Clone(far.L), api.Entry{Digest: "far", V: api.Vertex{Author: a, Round: round}})
		}
		for _, last := range []int{0, math.MinInt} {
			if got, w := tusk.Chain(far, last); len(got) != 1 || w != 1 {
				t.Errorf("%d after %d: %v %d", round, last, got, w)
			}
		}
		if got, w := tusk.Chain(far, 1); len(got) != 0 || w != 1 {
			t.Errorf("%d: %v %d", round, got, w)
		}
	}
}

// prefix: is one of the lists a prefix of the other one?
func prefix(a, b []api.Entry) bool {
	k := min(len(a), len(b))
	return sameEntries(a[:k], b[:k])
}

// P13.3: what DAGs that agree commit from the beginning on are prefixes of each other; a DAG that grows commits what it committed, and more, whether it is asked at once or bit by bit.
func TestAgreement(t *testing.T) {
	r := rand.New(rand.NewSource(2))
	for i := range 12 {
		n := []int{4, 7}[i%2]
		whole := sparse(t, r, string(rune('A'+i)), n, 15)
		var ends [][]api.Entry
		for range 4 {
			d := api.Dag{N: n}
			var soFar, all []api.Entry
			last := 0
			for step, at := range append(r.Perm(len(whole.L)), r.Perm(len(whole.L))...) {
				// Most of what may come comes early, the rest in any order.
				j := min(at, step)
				next, e := dag.Add(d, whole.L[j].V)
				if e != api.OK {
					continue
				}
				d = next
				now, _ := tusk.Chain(d, 0)
				if len(now) < len(all) || !prefix(now, all) {
					t.Fatalf("%d: it committed %d, and then %d", i, len(all), len(now))
				}
				more, w := tusk.Chain(d, last)
				soFar, last = append(soFar, more...), w
				if all = now; !sameEntries(soFar, all) {
					t.Fatalf("%d: bit by bit %d, at once %d", i, len(soFar), len(all))
				}
				for _, other := range ends {
					if !prefix(other, all) {
						t.Fatalf("%d: two orders", i)
					}
				}
			}
			ends = append(ends, all)
		}
		all, _ := tusk.Chain(whole, 0)
		for _, other := range ends {
			if !prefix(other, all) {
				t.Errorf("%d: two orders", i)
			}
		}
	}
}

// R3: arguments stay as they are.
func TestValues(t *testing.T) {
	d := full(t, "tape", 4, 6)
	before, _ := dag.Add(dag.Drop(d, 0), api.Vertex{})
	tusk.Chain(d, 0)
	tusk.Chain(d, 1)
	tusk.Decided(d, 1)
	tusk.Support(d, d.L[0])
	if !dag.Same(d, before) {
		t.Error("changed")
	}
}
