package vote_test

import (
	"math"
	"math/rand"
	"slices"
	"testing"

	"selvedge/api"
	"selvedge/vote"
)

func ballot(author, round int, digest string) api.Ballot {
	return api.Ballot{Author: author, Round: round, Digest: digest}
}

// wrongs are ballots that are not valid.
func wrongs() []api.Ballot {
	var l []api.Ballot
	for _, author := range []int{0, -1, 65, math.MaxInt, math.MinInt} {
		l = append(l, ballot(author, 1, "x"))
	}
	for _, round := range []int{0, -1, math.MinInt} {
		l = append(l, ballot(1, round, "x"))
	}
	return l
}

// P9.1: Right.
func TestRight(t *testing.T) {
	for _, x := range []struct {
		l    []api.Ballot
		want bool
	}{
		{nil, true},
		{[]api.Ballot{}, true},
		{[]api.Ballot{ballot(1, 1, "")}, true},
		{[]api.Ballot{ballot(64, math.MaxInt, "x")}, true},
		{[]api.Ballot{ballot(1, 1, "z"), ballot(2, 1, "a"), ballot(1, 2, "")}, true},
		{[]api.Ballot{ballot(64, 1, ""), ballot(1, 2, "")}, true},
		{[]api.Ballot{ballot(1, 2, ""), ballot(64, 1, "")}, false},
		{[]api.Ballot{ballot(2, 1, ""), ballot(1, 1, "")}, false},
		{[]api.Ballot{ballot(1, 1, "a"), ballot(1, 1, "b")}, false},
		{[]api.Ballot{ballot(1, 1, "a"), ballot(1, 1, "a")}, false},
		{[]api.Ballot{ballot(1, 1, "a"), ballot(1, 3, "a"), ballot(1, 2, "a")}, false},
	} {
		if vote.Right(x.l) != x.want {
			t.Errorf("%v", x.l)
		}
	}
	for _, b := range wrongs() {
		for _, l := range [][]api.Ballot{{b}, {b, ballot(64, math.MaxInt, "")}, {ballot(1, 1, ""), b}} {
			if vote.Right(l) {
				t.Errorf("%v", l)
			}
		}
	}
}

// P9.1: Find, also in lists that are not valid, and of ballots that are not.
func TestFind(t *testing.T) {
	l := []api.Ballot{ballot(3, 9, "first"), ballot(1, 2, "x"), ballot(1, 2, "y"), ballot(0, -1, "odd"), ballot(2, 1, "")}
	for _, x := range []struct {
		author, round int
		digest        string
		found         bool
	}{
		{3, 9, "first", true}, {1, 2, "x", true}, {0, -1, "odd", true}, {2, 1, "", true},
		{9, 3, "", false}, {2, 2, "", false}, {1, 1, "", false}, {1, 9, "", false}, {math.MaxInt, math.MinInt, "", false},
	} {
		if d, found := vote.Find(l, x.author, x.round); d != x.digest || found != x.found {
			t.Errorf("%d %d: %q %v", x.author, x.round, d, found)
		}
	}
	if d, found := vote.Find(nil, 1, 1); d != "" || found {
		t.Errorf("%q %v", d, found)
	}
}

// P9.2: Give, by hand.
func TestGive(t *testing.T) {
	l, e := vote.Give(nil, 0, ballot(1, 2, "x"))
	if !slices.Equal(l, []api.Ballot{ballot(1, 2, "x")}) || e != api.OK {
		t.Fatalf("%v %d", l, e)
	}
	for _, x := range []struct {
		low int
		b   api.Ballot
		e   api.Errno
	}{
		{0, ballot(1, 2, "y"), api.ErrOther},
		{0, ballot(1, 2, ""), api.ErrOther},
		{0, ballot(1, 2, "x"), api.OK},
		{1, ballot(1, 2, "x"), api.OK},
		{2, ballot(1, 2, "x"), api.ErrOld},
		{2, ballot(1, 2, "y"), api.ErrOld},
		{math.MaxInt, ballot(1, math.MaxInt, "y"), api.ErrOld},
		{5, ballot(2, 5, "y"), api.ErrOld},
		{5, ballot(65, 5, "y"), api.ErrArg},
		{5, ballot(1, 0, "y"), api.ErrArg},
	} {
		if got, e := vote.Give(l, x.low, x.b); !slices.Equal(got, l) || e != x.e {
			t.Errorf("low %d, %v: %v %d", x.low, x.b, got, e)
		}
	}
	for _, b := range wrongs() {
		for _, low := range []int{0, -5, math.MinInt, math.MaxInt} {
			if got, e := vote.Give(l, low, b); !slices.Equal(got, l) || e != api.ErrArg {
				t.Errorf("%v: %v %d", b, got, e)
			}
		}
	}
	for _, b := range []api.Ballot{ballot(64, 1, "x"), ballot(1, math.MaxInt, ""), ballot(1, 1, "")} {
		if got, e := vote.Give(nil, math.MinInt, b); !slices.Equal(got, []api.Ballot{b}) || e != api.OK {
			t.Errorf("%v: %v %d", b, got, e)
		}
	}
}

// P9.2: where a ballot is inserted, also in lists that are not valid.
func TestGivePlace(t *testing.T) {
	a, b, c := ballot(2, 1, "a"), ballot(2, 3, "b"), ballot(5, 3, "c")
	for _, x := range []struct {
		l    []api.Ballot
		b    api.Ballot
		want int
	}{
		{[]api.Ballot{a, b, c}, ballot(1, 1, ""), 0},
		{[]api.Ballot{a, b, c}, ballot(3, 1, ""), 1},
		{[]api.Ballot{a, b, c}, ballot(64, 2, ""), 1},
		{[]api.Ballot{a, b, c}, ballot(1, 3, ""), 1},
		{[]api.Ballot{a, b, c}, ballot(3, 3, ""), 2},
		{[]api.Ballot{a, b, c}, ballot(6, 3, ""), 3},
		{[]api.Ballot{a, b, c}, ballot(1, 4, ""), 3},
		{[]api.Ballot{c, b, a}, ballot(3, 3, ""), 0},
		{[]api.Ballot{b, a, c}, ballot(3, 3, ""), 2},
		{[]api.Ballot{a, a, ballot(-1, math.MaxInt, ""), b}, ballot(1, 1<<40, ""), 2},
	} {
		before := slices.Clone(x.l)
		got, e := vote.Give(x.l, 0, x.b)
		if !slices.Equal(got, slices.Insert(slices.Clone(x.l), x.want, x.b)) || e != api.OK {
			t.Errorf("%v into %v: %v %d", x.b, x.l, got, e)
		}
		if !slices.Equal(x.l, before) {
			t.Errorf("changed: %v", x.l)
		}
	}
	twice := []api.Ballot{ballot(1, 2, "x"), ballot(1, 2, "y")}
	if got, e := vote.Give(twice, 0, ballot(1, 2, "y")); !slices.Equal(got, twice) || e != api.ErrOther {
		t.Errorf("the first one counts: %v %d", got, e)
	}
}

// P9.2: Floor, also of lists that are not valid.
func TestFloor(t *testing.T) {
	l := []api.Ballot{ballot(9, 7, "a"), ballot(1, 1, "b"), ballot(2, 2, "c"), ballot(2, 2, "d"), ballot(0, -3, "e"), ballot(1, 3, "f")}
	for _, x := range []struct {
		low  int
		want []api.Ballot
	}{
		{math.MinInt, l},
		{-4, l},
		{-3, []api.Ballot{l[0], l[1], l[2], l[3], l[5]}},
		{0, []api.Ballot{l[0], l[1], l[2], l[3], l[5]}},
		{1, []api.Ballot{l[0], l[2], l[3], l[5]}},
		{2, []api.Ballot{l[0], l[5]}},
		{6, []api.Ballot{l[0]}},
		{7, nil},
		{math.MaxInt, nil},
	} {
		before := slices.Clone(l)
		if got := vote.Floor(l, x.low); !slices.Equal(got, x.want) {
			t.Errorf("%d: %v", x.low, got)
		}
		if !slices.Equal(l, before) {
			t.Fatalf("changed: %v", l)
		}
	}
	if got := vote.Floor(nil, 0); len(got) != 0 {
		t.Errorf("%v", got)
	}
}

// P9.3: whatever is asked, and however the floor rises, one author and round gets votes for one digest alone; the list stays valid.
func TestOneVoteEach(t *testing.T) {
	r := rand.New(rand.NewSource(1))
	for range 50 {
		var l []api.Ballot
		low := 0
		given := map[[2]int]string{}
		for range 300 {
			if r.Intn(20) == 0 {
				low += r.Intn(3)
				l = vote.Floor(l, low)
				continue
			}
			b := ballot(r.Intn(6), low-2+r.Intn(8), string(rune('a'+r.Intn(3))))
			before := slices.Clone(l)
			next, e := vote.Give(l, low, b)
			if !slices.Equal(l, before) {
				t.Fatalf("changed: %v", l)
			}
			key := [2]int{b.Author, b.Round}
			if e == api.OK {
				if d, old := given[key]; old && d != b.Digest {
					t.Fatalf("two votes: %v", b)
				}
				given[key] = b.Digest
				if d, found := vote.Find(next, b.Author, b.Round); !found || d != b.Digest {
					t.Fatalf("not kept: %v", b)
				}
			} else if !slices.Equal(next, l) {
				t.Fatalf("%d changed %v to %v", e, l, next)
			}
			if l = next; !vote.Right(l) {
				t.Fatalf("not valid: %v", l)
			}
		}
	}
}

// R3, R4: two lists that follow from one do not disturb each other.
func TestTwoFromOne(t *testing.T) {
	base, _ := vote.Give(nil, 0, ballot(1, 1, "a"))
	base, _ = vote.Give(base, 0, ballot(2, 1, "b"))
	base, _ = vote.Give(base, 0, ballot(3, 1, "c"))
	// Room behind a list's end is where two that follow from it might meet.
	base = slices.Grow(base, 9)
	one, _ := vote.Give(base, 0, ballot(4, 1, "one"))
	two, _ := vote.Give(base, 0, ballot(5, 1, "two"))
	three := vote.Floor(base, 0)
	three, _ = vote.Give(three, 0, ballot(6, 1, "three"))
	four, _ := vote.Give(base, 0, ballot(64, 1, "four"))
	four, _ = vote.Give(four, 0, ballot(2, 1, "b"))
	vote.Give(four, 0, ballot(63, 1, "five"))
	if four[3] != ballot(64, 1, "four") || one[3] != ballot(4, 1, "one") || two[3] != ballot(5, 1, "two") || three[3] != ballot(6, 1, "three") || len(base) != 3 {
		t.Errorf("%v %v %v %v", base, one, two, three)
	}
}
