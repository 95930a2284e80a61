package dag_test

import (
	"math"
	"math/rand"
	"slices"
	"strings"
	"testing"

	"selvedge/api"
	"selvedge/dag"
	"selvedge/vertex"
)

func digestOf(t *testing.T, v api.Vertex, n int) string {
	d, e := vertex.Digest(v, n)
	if e != api.OK {
		t.Fatalf("Digest(%v): %d", v, e)
	}
	return d
}

// add is Add of what may be added.
func add(t *testing.T, d api.Dag, v api.Vertex) api.Dag {
	next, e := dag.Add(d, v)
	if e != api.OK {
		t.Fatalf("Add(%v): %d", v, e)
	}
	return next
}

// over is a vertex over the entries.
func over(author, round int, l ...api.Entry) api.Vertex {
	v := api.Vertex{Author: author, Round: round}
	for _, x := range l {
		v.Parents = append(v.Parents, x.Digest)
	}
	slices.Sort(v.Parents)
	return v
}

// full is a DAG in which all seats have a vertex over all others in each of the rounds.
func full(t *testing.T, n, rounds int) api.Dag {
	d := api.Dag{N: n}
	for r := 1; r <= rounds; r++ {
		before := dag.Round(d, r-1)
		for a := 1; a <= n; a++ {
			d = add(t, d, over(a, r, before...))
		}
	}
	return d
}

// example are three vertices of round 1 and one of round 2 over them.
func example(t *testing.T) (api.Dag, api.Entry) {
	d := api.Dag{N: 4}
	for a := 1; a <= 3; a++ {
		d = add(t, d, over(a, 1))
	}
	d = add(t, d, over(2, 2, d.L...))
	return d, d.L[3]
}

// clone is a copy with lists of its own.
func clone(d api.Dag) api.Dag {
	d.L = slices.Clone(d.L)
	for i := range d.L {
		v := &d.L[i].V
		v.Parents, v.Batches = slices.Clone(v.Parents), slices.Clone(v.Batches)
		for j := range v.Batches {
			v.Batches[j].Txs = slices.Clone(v.Batches[j].Txs)
		}
	}
	return d
}

func sameEntries(a, b []api.Entry) bool {
	return slices.EqualFunc(a, b, func(x, y api.Entry) bool { return x.Digest == y.Digest && vertex.Same(x.V, y.V) })
}

func sameDag(a, b api.Dag) bool { return a.N == b.N && a.Low == b.Low && sameEntries(a.L, b.L) }

// P11.1: Right, and what makes a DAG wrong.
func TestRight(t *testing.T) {
	d := full(t, 4, 4)
	if !dag.Right(d) || !dag.Right(api.Dag{N: 4}) || !dag.Right(api.Dag{N: 64, Low: math.MaxInt}) || !dag.Right(full(t, 7, 2)) {
		t.Error("valid ones")
	}
	if dropped := (api.Dag{N: 4, Low: 2, L: d.L[8:]}); !dag.Right(dropped) {
		t.Error("without the lowest rounds")
	}
	for i, change := range []func(d *api.Dag){
		func(d *api.Dag) { d.N = 5 },
		func(d *api.Dag) { d.N = 0 },
		func(d *api.Dag) { d.N = 67 },
		func(d *api.Dag) { d.N = 7 },
		func(d *api.Dag) { d.Low = -1 },
		func(d *api.Dag) { d.Low = 1 },
		func(d *api.Dag) { d.Low, d.L = 1, d.L[4:]; d.L[5].V.Parents[0] = strings.Repeat("q", 32) },
		func(d *api.Dag) { d.L[0], d.L[1] = d.L[1], d.L[0] },
		func(d *api.Dag) { d.L[3], d.L[4] = d.L[4], d.L[3] },
		func(d *api.Dag) { d.L = append(d.L, d.L[15]) },
		func(d *api.Dag) { d.L = slices.Insert(d.L, 0, d.L[0]) },
		func(d *api.Dag) { d.L[2].Digest = strings.Repeat("q", 32) },
		func(d *api.Dag) { d.L[15].Digest = "" },
		func(d *api.Dag) { d.L[15].Digest = d.L[14].Digest },
		func(d *api.Dag) { d.L[15].V.Author = 5 },
		func(d *api.Dag) { d.L[15].V.Share = api.Elem{A: 1} },
		func(d *api.Dag) { d.L[15].V.Parents = d.L[15].V.Parents[:2] },
		func(d *api.Dag) { d.L = d.L[1:] },
		func(d *api.Dag) { d.L = slices.Delete(d.L, 5, 6) },
		func(d *api.Dag) { d.L = d.L[4:] },
	} {
		w := clone(d)
		change(&w)
		if dag.Right(w) {
			t.Errorf("change %d", i)
		}
	}
	// A parent of another round than the one before is missing.
	v := over(1, 4, d.L[0], d.L[1], d.L[2])
	w := api.Dag{N: 4, L: append(clone(d).L[:12], api.Entry{Digest: digestOf(t, v, 4), V: v})}
	if dag.Right(w) {
		t.Error("parents of round 1 in round 4")
	}
	// Two entries of one author and round.
	v = api.Vertex{Author: 4, Round: 1, Batches: []api.Batch{{Origin: 1, Seq: 1, Txs: []string{"a"}}}}
	w = clone(d)
	w.L = slices.Insert(w.L, 4, api.Entry{Digest: digestOf(t, v, 4), V: v})
	if dag.Right(w) {
		t.Error("an author twice")
	}
}

// P11.1: Missing.
func TestMissing(t *testing.T) {
	d, top := example(t)
	parents := top.V.Parents
	for i, x := range []struct {
		round, low int
		parents    []string
		want       []string
	}{
		{2, 0, parents, nil},
		{2, 0, []string{"z", parents[1], "a"}, []string{"z", "a"}},
		{2, 0, []string{"z", "z", parents[0], "z"}, []string{"z", "z", "z"}},
		{2, 0, []string{"z"}, []string{"z"}},
		{2, 1, []string{"z", parents[1], "a"}, nil},
		{2, 2, []string{"z"}, nil},
		{2, math.MaxInt, []string{"z"}, nil},
		{1, 0, []string{"z"}, nil},
		{1, -1, []string{"z", parents[0]}, []string{"z", parents[0]}},
		{3, 0, []string{parents[0], top.Digest}, []string{parents[0]}},
		{3, 1, []string{parents[0], top.Digest}, []string{parents[0]}},
		{3, 2, []string{parents[0], top.Digest}, nil},
		{0, 0, []string{"z"}, nil},
		{-5, 0, []string{"z"}, nil},
		{9, 0, []string{top.Digest}, []string{top.Digest}},
		{2, 0, nil, nil},
		// The round before the least one is the greatest one: it is not Low or below.
		{math.MinInt, 0, []string{"z"}, []string{"z"}},
	} {
		d.Low = x.low
		if got := dag.Missing(d, api.Vertex{Round: x.round, Parents: x.parents}); !slices.Equal(got, x.want) {
			t.Errorf("%d: %q", i, got)
		}
	}
	odd := api.Dag{Low: 5, L: []api.Entry{{Digest: "m", V: api.Vertex{Round: math.MaxInt}}}}
	if got := dag.Missing(odd, api.Vertex{Round: math.MinInt, Parents: []string{"m", "k"}}); !slices.Equal(got, []string{"k"}) {
		t.Errorf("%q", got)
	}
}

// odd is a DAG that is not valid: unsorted, with digests, and authors in a round, that occur twice.
func odd() api.Dag {
	return api.Dag{N: 5, Low: -7, L: []api.Entry{
		{Digest: "b", V: api.Vertex{Author: 2, Round: 3}},
		{Digest: "a", V: api.Vertex{Author: 1, Round: 1, Parents: []string{"x"}}},
		{Digest: "b", V: api.Vertex{Author: 7, Round: 1, Parents: []string{"y"}}},
		{Digest: "c", V: api.Vertex{Author: 2, Round: 3, Parents: []string{"b"}}},
		{Digest: "", V: api.Vertex{Author: -1, Round: -1}},
		{Digest: "d", V: api.Vertex{Author: 1, Round: 3}},
	}}
}

// P11.1: Round, Find and By, also in DAGs that are not valid.
func TestLookups(t *testing.T) {
	d := odd()
	for _, x := range []struct {
		r    int
		want []api.Entry
	}{{3, []api.Entry{d.L[0], d.L[3], d.L[5]}}, {1, d.L[1:3]}, {-1, d.L[4:5]}, {0, nil}, {2, nil}, {math.MaxInt, nil}} {
		if got := dag.Round(d, x.r); !sameEntries(got, x.want) {
			t.Errorf("Round %d: %v", x.r, got)
		}
	}
	for _, x := range []struct {
		digest string
		at     int
	}{{"b", 0}, {"a", 1}, {"c", 3}, {"", 4}, {"d", 5}, {"e", -1}, {"x", -1}} {
		got, found := dag.Find(d, x.digest)
		if found != (x.at >= 0) || found && !sameEntries([]api.Entry{got}, d.L[x.at:x.at+1]) || !found && !sameEntries([]api.Entry{got}, make([]api.Entry, 1)) {
			t.Errorf("Find %q: %v %v", x.digest, got, found)
		}
	}
	for _, x := range []struct{ author, r, at int }{{2, 3, 0}, {1, 1, 1}, {7, 1, 2}, {-1, -1, 4}, {1, 3, 5}, {3, 1, -1}, {2, 1, -1}, {3, 2, -1}, {0, 0, -1}} {
		got, found := dag.By(d, x.author, x.r)
		if found != (x.at >= 0) || found && !sameEntries([]api.Entry{got}, d.L[x.at:x.at+1]) || !found && !sameEntries([]api.Entry{got}, make([]api.Entry, 1)) {
			t.Errorf("By %d %d: %v %v", x.author, x.r, got, found)
		}
	}
	for _, d := range []api.Dag{{}, {N: 4}} {
		if _, found := dag.Find(d, ""); found || len(dag.Round(d, 0)) != 0 {
			t.Error("an empty DAG")
		}
		if _, found := dag.By(d, 0, 0); found {
			t.Error("an empty DAG")
		}
	}
}

// P11.1: Same.
func TestSame(t *testing.T) {
	d := full(t, 4, 2)
	if !dag.Same(d, clone(d)) || !dag.Same(api.Dag{}, api.Dag{L: []api.Entry{}}) || !dag.Same(odd(), odd()) {
		t.Error("equal ones")
	}
	for i, change := range []func(d *api.Dag){
		func(d *api.Dag) { d.N = 7 },
		func(d *api.Dag) { d.Low = 1 },
		func(d *api.Dag) { d.L = d.L[:7] },
		func(d *api.Dag) { d.L = nil },
		func(d *api.Dag) { d.L[3].Digest = "x" },
		func(d *api.Dag) { d.L[3].V.Author = 9 },
		func(d *api.Dag) { d.L[7].V.Parents[0] = "x" },
		func(d *api.Dag) { d.L[7].V.Share.B = 1 },
		func(d *api.Dag) { d.L[7].V.Batches = []api.Batch{{}} },
		func(d *api.Dag) { d.L[0], d.L[1] = d.L[1], d.L[0] },
	} {
		w := clone(d)
		change(&w)
		if dag.Same(d, w) || dag.Same(w, d) {
			t.Errorf("change %d", i)
		}
	}
}

// P11.2: Add, each error, and which of several is named first; the DAG comes back as it was.
func TestAddErrors(t *testing.T) {
	d, top := example(t)
	another := func(v api.Vertex) api.Vertex {
		v.Batches = []api.Batch{{Origin: 1, Seq: 1, Txs: []string{"a"}}}
		return v
	}
	unknown := []string{strings.Repeat("a", 32), strings.Repeat("b", 32), strings.Repeat("c", 32)}
	dropped := dag.Drop(d, 1)
	for i, x := range []struct {
		d api.Dag
		v api.Vertex
		e api.Errno
	}{
		{d, api.Vertex{}, api.ErrArg},
		{d, api.Vertex{Author: 5, Round: 1}, api.ErrArg},
		{d, api.Vertex{Author: 1, Round: 2}, api.ErrArg},
		{dropped, api.Vertex{Author: 5, Round: 1}, api.ErrArg},
		{api.Dag{N: 5, L: d.L}, d.L[0].V, api.ErrArg},
		{api.Dag{}, d.L[0].V, api.ErrArg},
		{dropped, d.L[0].V, api.ErrOld},
		{dropped, another(d.L[0].V), api.ErrOld},
		{api.Dag{N: 4, Low: 2, L: d.L}, top.V, api.ErrOld},
		{api.Dag{N: 4, Low: 2, L: d.L}, over(4, 2, d.L[:3]...), api.ErrOld},
		{api.Dag{N: 4, Low: math.MaxInt}, top.V, api.ErrOld},
		{d, d.L[0].V, api.ErrThere},
		{d, top.V, api.ErrThere},
		{dropped, top.V, api.ErrThere},
		{api.Dag{N: 4, L: d.L[3:]}, top.V, api.ErrThere},
		{d, another(d.L[0].V), api.ErrOther},
		{d, another(top.V), api.ErrOther},
		{d, api.Vertex{Author: 2, Round: 2, Parents: unknown}, api.ErrOther},
		{d, api.Vertex{Author: 1, Round: 2, Parents: unknown}, api.ErrPart},
		{d, over(1, 3, d.L[:3]...), api.ErrPart},
		{api.Dag{N: 4}, top.V, api.ErrPart},
	} {
		before := clone(x.d)
		if got, e := dag.Add(x.d, x.v); !sameDag(got, x.d) || e != x.e {
			t.Errorf("%d: %d", i, e)
		}
		if !sameDag(before, x.d) {
			t.Errorf("%d: changed", i)
		}
	}
	// An entry of another place that has the digest.
	w := api.Dag{N: 4, L: []api.Entry{{Digest: digestOf(t, over(1, 1), 4), V: over(3, 9)}}}
	if got, e := dag.Add(w, over(1, 1)); !sameDag(got, w) || e != api.ErrThere {
		t.Errorf("%d", e)
	}
}

// P11.2: Add, where the entry is inserted, also in DAGs that are not valid.
func TestAddPlace(t *testing.T) {
	entry := func(author, round int) api.Entry {
		return api.Entry{Digest: string(rune('a' + author)), V: api.Vertex{Author: author, Round: round}}
	}
	for i, x := range []struct {
		l      []api.Entry
		author int
		want   int
	}{
		{nil, 1, 0},
		{[]api.Entry{entry(2, 1)}, 1, 0},
		{[]api.Entry{entry(2, 1)}, 3, 1},
		{[]api.Entry{entry(1, 1), entry(4, 1)}, 3, 1},
		{[]api.Entry{entry(1, 1), entry(1, 2)}, 3, 1},
		{[]api.Entry{entry(9, 0), entry(1, 2)}, 3, 1},
		{[]api.Entry{entry(1, 2), entry(1, 1)}, 3, 0},
		{[]api.Entry{entry(1, 1), entry(1, 5), entry(2, 1), entry(4, 1)}, 3, 1},
		{[]api.Entry{entry(5, -1), entry(2, 1), entry(2, 1)}, 3, 3},
	} {
		d := api.Dag{N: 4, Low: -9, L: x.l}
		v := over(x.author, 1)
		want := slices.Insert(clone(d).L, x.want, api.Entry{Digest: digestOf(t, v, 4), V: v})
		if got, e := dag.Add(d, v); e != api.OK || got.N != 4 || got.Low != -9 || !sameEntries(got.L, want) {
			t.Errorf("%d: %v %d", i, got, e)
		}
	}
}

// P11.2: vertices may come in any order that has parents first.
func TestAddAnyOrder(t *testing.T) {
	r := rand.New(rand.NewSource(1))
	want := full(t, 4, 5)
	for range 5 {
		d := api.Dag{N: 4}
		for left := r.Perm(20); len(left) > 0; {
			i := left[0]
			left = left[1:]
			next, e := dag.Add(d, want.L[i].V)
			if e == api.ErrPart {
				left = append(left, i)
			} else if e != api.OK {
				t.Fatal(e)
			}
			if d = next; !dag.Right(d) {
				t.Fatal("not valid")
			}
		}
		if !sameDag(d, want) {
			t.Fatalf("%v", d)
		}
	}
}

// P11.2: Drop.
func TestDrop(t *testing.T) {
	d := full(t, 4, 4)
	for _, low := range []int{0, -1, math.MinInt} {
		if got := dag.Drop(d, low); !sameDag(got, d) {
			t.Errorf("%d: %v", low, got)
		}
	}
	for low := 1; low <= 6; low++ {
		got := dag.Drop(d, low)
		if got.N != 4 || got.Low != low || !sameEntries(got.L, d.L[min(4*low, 16):]) || !dag.Right(got) {
			t.Errorf("%d: %v", low, got)
		}
		if again := dag.Drop(got, low-1); !sameDag(again, got) {
			t.Errorf("%d: it fell to %d", low, again.Low)
		}
		if again := dag.Drop(got, low); !sameDag(again, got) {
			t.Errorf("%d: %v", low, again)
		}
	}
	if _, e := dag.Add(dag.Drop(d, 1), over(1, 1)); e != api.ErrOld {
		t.Error(e)
	}
	if got := dag.Drop(odd(), 1); got.Low != 1 || !sameEntries(got.L, []api.Entry{odd().L[0], odd().L[3], odd().L[5]}) {
		t.Errorf("%v", got)
	}
	if got := dag.Drop(odd(), -7); !sameDag(got, odd()) {
		t.Errorf("%v", got)
	}
	if got := dag.Drop(d, math.MaxInt); got.Low != math.MaxInt || len(got.L) != 0 {
		t.Errorf("%v", got)
	}
}

// P11.3: the chapter's example.
func TestPastExample(t *testing.T) {
	d, top := example(t)
	for _, x := range []struct{ low, from int }{{0, 0}, {-5, 0}, {1, 3}, {2, 4}, {math.MaxInt, 4}, {math.MinInt, 0}} {
		if got := dag.Past(d, top.Digest, x.low); !sameEntries(got, d.L[x.from:]) {
			t.Errorf("above %d: %v", x.low, got)
		}
	}
	if got := dag.Past(d, d.L[1].Digest, 0); !sameEntries(got, d.L[1:2]) {
		t.Errorf("%v", got)
	}
	if got := dag.Past(d, "none", 0); len(got) != 0 {
		t.Errorf("%v", got)
	}
	for i := range 3 {
		if !dag.Path(d, top.Digest, d.L[i].Digest) || dag.Path(d, d.L[i].Digest, top.Digest) || !dag.Path(d, d.L[i].Digest, d.L[i].Digest) || dag.Path(d, d.L[i].Digest, d.L[(i+1)%3].Digest) {
			t.Errorf("path %d", i)
		}
	}
	if dag.Path(d, top.Digest, "none") || dag.Path(d, "none", top.Digest) || dag.Path(d, "none", "none") || dag.Path(api.Dag{}, "", "") {
		t.Error("a path of none")
	}
}

// plainPast goes by the words: entries are added until there are no more.
func plainPast(d api.Dag, digest string, low int) ([]api.Entry, []api.Entry) {
	in := make([]bool, len(d.L))
	for i, x := range d.L {
		if x.Digest == digest {
			in[i] = true
			break
		}
	}
	for more := true; more; {
		more = false
		for i, x := range d.L {
			for j, y := range d.L {
				if in[i] && !in[j] && y.V.Round == x.V.Round-1 && slices.Contains(x.V.Parents, y.Digest) {
					in[j], more = true, true
				}
			}
		}
	}
	var past, all []api.Entry
	for i, x := range d.L {
		if in[i] {
			all = append(all, x)
			if x.V.Round > low {
				past = append(past, x)
			}
		}
	}
	return past, all
}

// checkPasts holds all pasts and paths of a DAG against the other way.
func checkPasts(t *testing.T, d api.Dag, digests []string, lows []int) {
	before := clone(d)
	for _, from := range digests {
		for _, low := range lows {
			want, all := plainPast(d, from, low)
			if got := dag.Past(d, from, low); !sameEntries(got, want) {
				t.Fatalf("Past(%v, %q, %d): %v, not %v", d, from, low, got, want)
			}
			for _, to := range digests {
				want := slices.ContainsFunc(all, func(x api.Entry) bool { return x.Digest == to })
				if dag.Path(d, from, to) != want {
					t.Fatalf("Path(%v, %q, %q)", d, from, to)
				}
			}
		}
	}
	if !sameDag(d, before) {
		t.Fatal("changed")
	}
}

// P11.3, R1: pasts and paths in DAGs of any kind: unsorted, with digests that occur in several rounds, with rounds at which the numbers wrap around.
func TestPastOdd(t *testing.T) {
	r := rand.New(rand.NewSource(2))
	digests := []string{"", "a", "b", "c", "d", "e"}
	rounds := []int{0, 1, 2, 3, 4, -1, math.MinInt, math.MinInt + 1, math.MaxInt, math.MaxInt - 1}
	for range 300 {
		d := api.Dag{N: r.Intn(9) - 1, Low: r.Intn(4) - 1}
		few := rounds[:4+r.Intn(len(rounds)-3)]
		for range r.Intn(14) {
			x := api.Entry{Digest: digests[r.Intn(len(digests))], V: api.Vertex{Author: r.Intn(3), Round: few[r.Intn(len(few))]}}
			for range r.Intn(4) {
				x.V.Parents = append(x.V.Parents, digests[r.Intn(len(digests))])
			}
			d.L = append(d.L, x)
		}
		checkPasts(t, d, append(digests, "z"), []int{0, 2, -1, math.MinInt, math.MaxInt - 1})
	}
}

// sparse is a valid DAG in which each vertex has a quorum of parents that chance picks, and not every seat is there in each round.
func sparse(t *testing.T, r *rand.Rand, n, rounds int) api.Dag {
	d := api.Dag{N: n}
	quorum := n - (n-1)/3
	for round := 1; round <= rounds; round++ {
		before := dag.Round(d, round-1)
		for _, a := range r.Perm(n)[:quorum+r.Intn(n-quorum+1)] {
			v := api.Vertex{Author: a + 1, Round: round}
			if round > 1 {
				var l []api.Entry
				for _, i := range r.Perm(len(before))[:quorum] {
					l = append(l, before[i])
				}
				v = over(a+1, round, l...)
			}
			d = add(t, d, v)
		}
	}
	return d
}

// P11.3, P11.4: pasts in valid DAGs, whole and dropped.
func TestPastValid(t *testing.T) {
	r := rand.New(rand.NewSource(3))
	for _, n := range []int{4, 7} {
		d := sparse(t, r, n, 5)
		var digests []string
		for _, x := range d.L {
			digests = append(digests, x.Digest)
		}
		checkPasts(t, d, digests, []int{0, 1, 3})
		for low := 1; low < 6; low++ {
			less := dag.Drop(d, low)
			if !dag.Right(less) {
				t.Fatal("not valid")
			}
			checkPasts(t, less, digests, []int{0, low + 1})
			for _, x := range less.L {
				if !sameEntries(dag.Past(less, x.Digest, 0), dag.Past(d, x.Digest, low)) {
					t.Fatalf("the past above %d of %v", low, x)
				}
			}
		}
	}
}

// P11.4: two DAGs that hold different parts agree on the past of what both hold; what was added stays, with its past.
func TestPastAgrees(t *testing.T) {
	r := rand.New(rand.NewSource(4))
	whole := sparse(t, r, 4, 6)
	grow := func() api.Dag {
		d := api.Dag{N: 4}
		for range 3 {
			for _, i := range r.Perm(len(whole.L)) {
				if r.Intn(4) > 0 {
					next, e := dag.Add(d, whole.L[i].V)
					if e == api.OK {
						for _, x := range d.L {
							if y, found := dag.Find(next, x.Digest); !found || !sameEntries([]api.Entry{x}, []api.Entry{y}) || !sameEntries(dag.Past(d, x.Digest, 0), dag.Past(next, x.Digest, 0)) {
								t.Fatalf("%v was there", x)
							}
						}
					}
					d = next
				}
			}
		}
		if !dag.Right(d) {
			t.Fatal("not valid")
		}
		return d
	}
	for range 5 {
		a, b := grow(), grow()
		for _, x := range a.L {
			if _, found := dag.Find(b, x.Digest); found && !sameEntries(dag.Past(a, x.Digest, 0), dag.Past(b, x.Digest, 0)) {
				t.Fatalf("%v", x)
			}
		}
	}
}

// R3, R4: DAGs that follow from one do not disturb each other, and the one stays as it was.
func TestTwoFromOne(t *testing.T) {
	base, _ := example(t)
	// Room behind a list's end is where two that follow from it might meet.
	base.L = slices.Grow(base.L, 9)
	before := clone(base)
	one := add(t, base, over(4, 1))
	two := add(t, base, over(1, 2, base.L[:3]...))
	three := add(t, base, over(3, 2, base.L[:3]...))
	four := add(t, dag.Drop(base, 1), over(4, 2, base.L[:3]...))
	five := add(t, base, over(4, 2, base.L[:3]...))
	six := add(t, dag.Drop(base, 0), over(3, 2, base.L[:3]...))
	seven, _ := dag.Add(base, api.Vertex{})
	add(t, seven, over(3, 2, base.L[:3]...))
	if five.L[4].V.Author != 4 || six.L[4].V.Author != 3 {
		t.Errorf("%v %v", five, six)
	}
	if !sameDag(base, before) || len(one.L) != 5 || one.L[3].V.Author != 4 || two.L[3].V.Author != 1 || two.L[4].V.Author != 2 || three.L[4].V.Author != 3 || four.L[1].V.Author != 4 {
		t.Errorf("%v %v %v %v", one, two, three, four)
	}
}

// R1: a long chain of rounds ends, and soon.
func TestLong(t *testing.T) {
	d := api.Dag{N: 4}
	for r := 1; r <= 3000; r++ {
		d.L = append(d.L, api.Entry{Digest: strings.Repeat("x", r%7) + string(rune(r+100)), V: api.Vertex{Author: 1, Round: r}})
		if r > 1 {
			d.L[r-1].V.Parents = []string{d.L[r-2].Digest}
		}
	}
	if got := dag.Past(d, d.L[2999].Digest, 1000); !sameEntries(got, d.L[1000:]) {
		t.Error(len(got))
	}
	if !dag.Path(d, d.L[2999].Digest, d.L[0].Digest) || dag.Right(d) {
		t.Error("path")
	}
}
