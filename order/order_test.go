package order_test

import (
	"math"
	"math/rand"
	"slices"
	"testing"

	"selvedge/api"
	"selvedge/coin"
	"selvedge/dag"
	"selvedge/order"
	"selvedge/tusk"
	"selvedge/vertex"
)

func sameEntries(a, b []api.Entry) bool {
	return slices.EqualFunc(a, b, func(x, y api.Entry) bool { return x.Digest == y.Digest && vertex.Same(x.V, y.V) })
}

func sameParts(a, b [][]api.Entry) bool { return slices.EqualFunc(a, b, sameEntries) }

func sameMarks(a, b []api.Mark) bool {
	return slices.EqualFunc(a, b, func(x, y api.Mark) bool {
		return x.Origin == y.Origin && x.Low == y.Low && slices.Equal(x.Above, y.Above)
	})
}

func cloneMarks(l []api.Mark) []api.Mark {
	l = slices.Clone(l)
	for i := range l {
		l[i].Above = slices.Clone(l[i].Above)
	}
	return l
}

// entry is one of a digest and a round, with parents.
func entry(digest string, round int, parents ...string) api.Entry {
	return api.Entry{Digest: digest, V: api.Vertex{Author: 1, Round: round, Parents: parents}}
}

// sparse is a valid DAG in which each vertex has a quorum of parents that chance picks, and not every seat is there in each round.
func sparse(t *testing.T, r *rand.Rand, tape string, n, rounds int) api.Dag {
	d := api.Dag{N: n}
	quorum := n - (n-1)/3
	for round := 1; round <= rounds; round++ {
		before := dag.Round(d, round-1)
		for _, a := range r.Perm(n)[:quorum+r.Intn(n-quorum+1)] {
			v := api.Vertex{Author: a + 1, Round: round}
			for _, i := range r.Perm(len(before))[:min(quorum, len(before))] {
				v.Parents = append(v.Parents, before[i].Digest)
			}
			slices.Sort(v.Parents)
			if round%3 == 0 {
				v.Share = coin.Own(tape, round/3, n, a+1)
			}
			next, e := dag.Add(d, v)
			if e != api.OK {
				t.Fatal(e)
			}
			d = next
		}
	}
	return d
}

// P14.1: Behind, by hand.
func TestBehind(t *testing.T) {
	a, b, c := entry("a", 1), entry("b", 1), entry("c", 2, "a", "b")
	d := api.Dag{N: 4, L: []api.Entry{a, b, c}}
	for i, x := range []struct {
		of       api.Entry
		done     []string
		want     []api.Entry
		wantDone []string
	}{
		{c, []string{"b"}, []api.Entry{a, c}, []string{"a", "b", "c"}},
		{c, nil, []api.Entry{a, b, c}, []string{"a", "b", "c"}},
		{a, nil, []api.Entry{a}, []string{"a"}},
		{c, []string{"a", "b", "c"}, nil, []string{"a", "b", "c"}},
		{c, []string{"", "bb", "z"}, []api.Entry{a, b, c}, []string{"", "a", "b", "bb", "c", "z"}},
		{c, []string{"z", "b", "q"}, []api.Entry{a, c}, []string{"a", "c", "z", "b", "q"}},
		{c, []string{"q", "b", "b"}, []api.Entry{a, c}, []string{"a", "c", "q", "b", "b"}},
		{entry("none", 2), []string{"q"}, nil, []string{"q"}},
		{entry("none", 2, "a"), nil, nil, nil},
		// The digest alone tells whose past it is, the round alone how deep it is.
		{entry("c", 13), nil, []api.Entry{c}, []string{"c"}},
		{entry("c", 14), nil, nil, nil},
		{entry("c", 12, "q"), nil, []api.Entry{a, b, c}, []string{"a", "b", "c"}},
		{entry("c", math.MinInt), []string{"x"}, nil, []string{"x"}},
		{entry("c", math.MinInt+12), []string{"x"}, []api.Entry{a, b, c}, []string{"a", "b", "c", "x"}},
	} {
		before := slices.Clone(x.done)
		got, done := order.Behind(d, x.of, x.done)
		if !sameEntries(got, x.want) || !slices.Equal(done, x.wantDone) {
			t.Errorf("%d: %v %q", i, got, done)
		}
		if !slices.Equal(x.done, before) {
			t.Errorf("%d: changed %q", i, x.done)
		}
	}
}

// P14.1: of a DAG with a digest that two entries have, both are returned, and the digest is done once.
func TestBehindTwice(t *testing.T) {
	d := api.Dag{L: []api.Entry{entry("b", 1), entry("a", 1), entry("b", 1), entry("t", 2, "a", "b")}}
	got, done := order.Behind(d, d.L[3], nil)
	if !sameEntries(got, d.L) || !slices.Equal(done, []string{"a", "b", "t"}) {
		t.Errorf("%v %q", got, done)
	}
	got, done = order.Behind(d, d.L[3], []string{"b"})
	if !sameEntries(got, []api.Entry{d.L[1], d.L[3]}) || !slices.Equal(done, []string{"a", "b", "t"}) {
		t.Errorf("%v %q", got, done)
	}
}

// P14.1: Behind goes Depth rounds deep, and not more.
func TestBehindDepth(t *testing.T) {
	var d api.Dag
	for r := 1; r <= 30; r++ {
		d.L = append(d.L, entry(string(rune('A'+r)), r, string(rune('A'+r-1))))
	}
	got, done := order.Behind(d, d.L[29], nil)
	if !sameEntries(got, d.L[18:]) || len(done) != 12 {
		t.Errorf("%d %d", len(got), len(done))
	}
	if got, _ := order.Behind(d, d.L[12], nil); !sameEntries(got, d.L[1:13]) {
		t.Errorf("%d", len(got))
	}
	if got, _ := order.Behind(d, d.L[11], nil); !sameEntries(got, d.L[:12]) {
		t.Errorf("%d", len(got))
	}
}

// plainAll goes by the words of the promise.
func plainAll(d api.Dag, last int, done []string) ([][]api.Entry, int, []string) {
	leaders, w := tusk.Chain(d, last)
	done = slices.Clone(done)
	var parts [][]api.Entry
	for _, x := range leaders {
		var part []api.Entry
		for _, y := range dag.Past(d, x.Digest, x.V.Round-12) {
			if !slices.Contains(done, y.Digest) {
				part = append(part, y)
			}
		}
		for _, y := range part {
			done = append(done, y.Digest)
		}
		slices.Sort(done)
		parts = append(parts, part)
	}
	return parts, w, done
}

// P14.1, P14.3: All, held against the other way; each vertex is returned once, after its past that is returned with it.
func TestAll(t *testing.T) {
	r := rand.New(rand.NewSource(1))
	for i := range 20 {
		n := []int{4, 7}[i%2]
		d := sparse(t, r, string(rune('a'+i)), n, 16)
		for _, last := range []int{-1, 0, 1, 2, 4, 9, math.MaxInt} {
			done := []string{"", "\xff"}
			for _, j := range r.Perm(len(d.L))[:r.Intn(5)] {
				done = append(done, d.L[j].Digest)
			}
			slices.Sort(done)
			want, wantWave, wantDone := plainAll(d, last, done)
			before := slices.Clone(done)
			got, wave, now := order.All(d, last, done)
			if !sameParts(got, want) || wave != wantWave || !slices.Equal(now, wantDone) || !slices.Equal(done, before) {
				t.Fatalf("%d after %d: %d parts, %d, %d done", i, last, len(got), wave, len(now))
			}
			checkOnce(t, got)
		}
	}
}

// checkOnce: no vertex comes twice, nor before one of its parents.
func checkOnce(t *testing.T, parts [][]api.Entry) {
	came := map[string]int{}
	total := 0
	for _, part := range parts {
		for _, x := range part {
			if _, twice := came[x.Digest]; twice {
				t.Fatal("a vertex twice")
			}
			total++
			came[x.Digest] = total
		}
	}
	for _, part := range parts {
		for _, x := range part {
			for _, p := range x.V.Parents {
				if came[p] > came[x.Digest] {
					t.Fatal("a parent behind")
				}
			}
		}
	}
}

// P14.3: a DAG that grows, asked bit by bit, with what was done so far, and dropped as far as it may be, returns each vertex once, and all the same as at once.
func TestAllGrows(t *testing.T) {
	r := rand.New(rand.NewSource(2))
	for i := range 6 {
		whole := sparse(t, r, string(rune('A'+i)), 4, 24)
		d := api.Dag{N: 4}
		var parts [][]api.Entry
		var done []string
		last := 0
		for _, x := range whole.L {
			next, e := dag.Add(d, x.V)
			if e != api.OK {
				t.Fatal(e)
			}
			var more [][]api.Entry
			more, last, done = order.All(next, last, done)
			parts = append(parts, more...)
			if d = next; len(more) > 0 {
				d = dag.Drop(d, 3*last-2-12)
			}
		}
		checkOnce(t, parts)
		if len(parts) < 3 {
			t.Errorf("%d parts", len(parts))
		}
		leaders, _ := tusk.Chain(whole, 0)
		if len(leaders) != len(parts) {
			t.Fatalf("%d leaders, %d parts", len(leaders), len(parts))
		}
		for k, part := range parts {
			if !sameEntries(part[len(part)-1:], leaders[k:k+1]) {
				t.Errorf("part %d does not end with its leader", k)
			}
		}
	}
}

// P14.2: Right.
func TestRight(t *testing.T) {
	for _, x := range []struct {
		l    []api.Mark
		want bool
	}{
		{nil, true},
		{[]api.Mark{{Origin: 1}}, true},
		{[]api.Mark{{Origin: 64, Low: math.MaxInt}}, true},
		{[]api.Mark{{Origin: 1, Low: 3, Above: []int{5, 11}}}, true},
		{[]api.Mark{{Origin: 1, Above: []int{2, 3, 4, 5, 6, 7, 8}}}, true},
		{[]api.Mark{{Origin: 1}, {Origin: 3}, {Origin: 64}}, true},
		{[]api.Mark{{}}, false},
		{[]api.Mark{{Origin: -1}}, false},
		{[]api.Mark{{Origin: 65}}, false},
		{[]api.Mark{{Origin: 1, Low: -1}}, false},
		{[]api.Mark{{Origin: 1, Low: 3, Above: []int{4}}}, false},
		{[]api.Mark{{Origin: 1, Low: 3, Above: []int{3}}}, false},
		{[]api.Mark{{Origin: 1, Low: 3, Above: []int{12}}}, false},
		{[]api.Mark{{Origin: 1, Low: 3, Above: []int{5, 12}}}, false},
		{[]api.Mark{{Origin: 1, Low: 3, Above: []int{6, 5}}}, false},
		{[]api.Mark{{Origin: 1, Low: 3, Above: []int{5, 5}}}, false},
		{[]api.Mark{{Origin: 1, Above: []int{1}}}, false},
		{[]api.Mark{{Origin: 1, Above: []int{-2}}}, false},
		{[]api.Mark{{Origin: 2}, {Origin: 1}}, false},
		{[]api.Mark{{Origin: 2}, {Origin: 2}}, false},
		{[]api.Mark{{Origin: 1}, {Origin: 2, Low: -1}}, false},
	} {
		if order.Right(x.l) != x.want {
			t.Errorf("%v", x.l)
		}
	}
}

// P14.2: Fresh, by hand.
func TestFresh(t *testing.T) {
	l := []api.Mark{{Origin: 2, Low: 3}, {Origin: 3, Low: 1, Above: []int{3, 5}}, {Origin: 2, Low: 50}, {Origin: 65, Low: 1}, {Origin: 0}, {Origin: 9, Low: math.MaxInt - 1}, {Origin: 10, Low: -5}}
	for _, x := range []struct {
		origin, seq int
		want        bool
	}{
		{2, 4, true}, {2, 11, true}, {2, 3, false}, {2, 2, false}, {2, 12, false}, {2, 51, false},
		{3, 1, false}, {3, 2, true}, {3, 3, false}, {3, 4, true}, {3, 5, false}, {3, 9, true}, {3, 10, false},
		{1, 0, false}, {1, 1, true}, {1, 8, true}, {1, 9, false}, {1, -1, false}, {64, 8, true},
		{0, 1, false}, {65, 2, false}, {-1, 1, false}, {math.MaxInt, 1, false},
		{1, math.MaxInt, false}, {1, math.MinInt, false}, {1, math.MinInt + 3, false},
		{9, math.MaxInt, true}, {9, math.MaxInt - 1, false},
		{10, -4, true}, {10, 3, true}, {10, 4, false}, {10, -5, false},
	} {
		if order.Fresh(l, x.origin, x.seq) != x.want {
			t.Errorf("%d %d", x.origin, x.seq)
		}
	}
	if !order.Fresh(nil, 1, 1) || order.Fresh(nil, 1, 9) || order.Fresh(nil, 65, 1) {
		t.Error("no marks")
	}
}

// P14.2: Note, by hand.
func TestNote(t *testing.T) {
	var l []api.Mark
	for _, x := range []struct {
		origin, seq int
		want        []api.Mark
	}{
		{2, 1, []api.Mark{{Origin: 2, Low: 1}}},
		{2, 3, []api.Mark{{Origin: 2, Low: 1, Above: []int{3}}}},
		{2, 9, []api.Mark{{Origin: 2, Low: 1, Above: []int{3, 9}}}},
		{2, 10, []api.Mark{{Origin: 2, Low: 1, Above: []int{3, 9}}}},
		{2, 4, []api.Mark{{Origin: 2, Low: 1, Above: []int{3, 4, 9}}}},
		{2, 4, []api.Mark{{Origin: 2, Low: 1, Above: []int{3, 4, 9}}}},
		{1, 2, []api.Mark{{Origin: 1, Above: []int{2}}, {Origin: 2, Low: 1, Above: []int{3, 4, 9}}}},
		{64, 1, []api.Mark{{Origin: 1, Above: []int{2}}, {Origin: 2, Low: 1, Above: []int{3, 4, 9}}, {Origin: 64, Low: 1}}},
		{2, 2, []api.Mark{{Origin: 1, Above: []int{2}}, {Origin: 2, Low: 4, Above: []int{9}}, {Origin: 64, Low: 1}}},
		{65, 1, []api.Mark{{Origin: 1, Above: []int{2}}, {Origin: 2, Low: 4, Above: []int{9}}, {Origin: 64, Low: 1}}},
		{0, 1, []api.Mark{{Origin: 1, Above: []int{2}}, {Origin: 2, Low: 4, Above: []int{9}}, {Origin: 64, Low: 1}}},
		{1, 1, []api.Mark{{Origin: 1, Low: 2}, {Origin: 2, Low: 4, Above: []int{9}}, {Origin: 64, Low: 1}}},
		{3, 8, []api.Mark{{Origin: 1, Low: 2}, {Origin: 2, Low: 4, Above: []int{9}}, {Origin: 3, Above: []int{8}}, {Origin: 64, Low: 1}}},
	} {
		before := cloneMarks(l)
		next := order.Note(l, x.origin, x.seq)
		if !sameMarks(next, x.want) {
			t.Fatalf("Note %d %d: %v", x.origin, x.seq, next)
		}
		if !sameMarks(l, before) {
			t.Fatalf("changed: %v", l)
		}
		l = next
	}
}

// P14.2: Note in lists that are not valid.
func TestNoteWrong(t *testing.T) {
	for i, x := range []struct {
		l           []api.Mark
		origin, seq int
		want        []api.Mark
	}{
		{[]api.Mark{{Origin: 5}, {Origin: 2}, {Origin: 5, Low: 9}}, 5, 1, []api.Mark{{Origin: 5, Low: 1}, {Origin: 2}, {Origin: 5, Low: 9}}},
		{[]api.Mark{{Origin: 5}, {Origin: 2}}, 3, 1, []api.Mark{{Origin: 3, Low: 1}, {Origin: 5}, {Origin: 2}}},
		{[]api.Mark{{Origin: 2}, {Origin: 99}, {Origin: 1}}, 3, 2, []api.Mark{{Origin: 2}, {Origin: 3, Above: []int{2}}, {Origin: 99}, {Origin: 1}}},
		{[]api.Mark{{Origin: 1, Low: 2, Above: []int{9, 4, 5}}}, 1, 3, []api.Mark{{Origin: 1, Low: 3, Above: []int{9, 4, 5}}}},
		{[]api.Mark{{Origin: 1, Low: 2, Above: []int{9, 4, 5}}}, 1, 8, []api.Mark{{Origin: 1, Low: 2, Above: []int{8, 9, 4, 5}}}},
		{[]api.Mark{{Origin: 1, Low: 2, Above: []int{4, 4}}}, 1, 3, []api.Mark{{Origin: 1, Low: 4, Above: []int{4}}}},
		{[]api.Mark{{Origin: 1, Low: 2, Above: []int{1}}}, 1, 3, []api.Mark{{Origin: 1, Low: 2, Above: []int{1, 3}}}},
		{[]api.Mark{{Origin: 1, Low: math.MaxInt - 1}}, 1, math.MaxInt, []api.Mark{{Origin: 1, Low: math.MaxInt}}},
	} {
		before := cloneMarks(x.l)
		if got := order.Note(x.l, x.origin, x.seq); !sameMarks(got, x.want) || !sameMarks(x.l, before) {
			t.Errorf("%d: %v", i, got)
		}
	}
}

// P14.3: whatever is noted, the list stays valid, and what was noted is never fresh again.
func TestNoteAny(t *testing.T) {
	r := rand.New(rand.NewSource(3))
	for range 30 {
		var l []api.Mark
		noted := map[[2]int]int{}
		for range 400 {
			origin, seq := r.Intn(4), r.Intn(30)
			if at := slices.IndexFunc(l, func(m api.Mark) bool { return m.Origin == origin }); at >= 0 && r.Intn(2) == 0 {
				seq = l[at].Low + r.Intn(11) - 1
			}
			fresh := order.Fresh(l, origin, seq)
			next := order.Note(l, origin, seq)
			if !order.Right(next) || !fresh && !sameMarks(next, l) || order.Fresh(next, origin, seq) && fresh {
				t.Fatalf("%d %d: %v to %v", origin, seq, l, next)
			}
			key := [2]int{origin, seq}
			if fresh {
				if noted[key] > 0 {
					t.Fatalf("fresh again: %v", key)
				}
				noted[key]++
			}
			l = next
			for k := range noted {
				if order.Fresh(l, k[0], k[1]) {
					t.Fatalf("fresh again: %v", k)
				}
			}
		}
	}
}

// P14.3: numbers that come in order are all fresh.
func TestNoteInOrder(t *testing.T) {
	var l []api.Mark
	for seq := 1; seq <= 200; seq++ {
		for _, origin := range []int{1, 7, 64} {
			if !order.Fresh(l, origin, seq) {
				t.Fatalf("%d %d", origin, seq)
			}
			l = order.Note(l, origin, seq)
		}
	}
	if !sameMarks(l, []api.Mark{{Origin: 1, Low: 200}, {Origin: 7, Low: 200}, {Origin: 64, Low: 200}}) {
		t.Errorf("%v", l)
	}
}

// R3, R4: lists that follow from one do not disturb each other.
func TestTwoFromOne(t *testing.T) {
	base := order.Note(order.Note(order.Note(nil, 1, 3), 1, 5), 2, 4)
	// Room behind a list's end is where two that follow from it might meet.
	base = slices.Grow(base, 9)
	base[0].Above = slices.Grow(base[0].Above, 9)
	before := cloneMarks(base)
	one := order.Note(base, 1, 7)
	two := order.Note(base, 1, 8)
	three := order.Note(base, 3, 1)
	four := order.Note(base, 4, 1)
	if !sameMarks(base, before) || !slices.Equal(one[0].Above, []int{3, 5, 7}) || !slices.Equal(two[0].Above, []int{3, 5, 8}) || three[2].Origin != 3 || four[2].Origin != 4 {
		t.Errorf("%v %v %v %v", one, two, three, four)
	}
	d := api.Dag{L: []api.Entry{entry("m", 1), entry("n", 1)}}
	done := append(make([]string, 0, 10), "a", "z")
	_, first := order.Behind(d, d.L[0], done)
	_, second := order.Behind(d, d.L[1], done)
	if !slices.Equal(first, []string{"a", "m", "z"}) || !slices.Equal(second, []string{"a", "n", "z"}) || !slices.Equal(done, []string{"a", "z"}) {
		t.Errorf("%q %q %q", first, second, done)
	}
}
