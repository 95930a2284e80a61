package lane_test

import (
	"math"
	"math/rand"
	"slices"
	"strings"
	"testing"

	"selvedge/api"
	"selvedge/batch"
	"selvedge/lane"
)

func sameBatches(a, b []api.Batch) bool { return slices.EqualFunc(a, b, batch.Same) }

func same(a, b api.Lane) bool {
	return a.Origin == b.Origin && a.Next == b.Next && slices.Equal(a.Pool, b.Pool) && sameBatches(a.Open, b.Open)
}

func clone(l api.Lane) api.Lane {
	l.Pool, l.Open = slices.Clone(l.Pool), slices.Clone(l.Open)
	for i := range l.Open {
		l.Open[i].Txs = slices.Clone(l.Open[i].Txs)
	}
	return l
}

func some(origin, seq int, txs ...string) api.Batch {
	return api.Batch{Origin: origin, Seq: seq, Txs: txs}
}

// opened are batches of an origin, each of one transaction.
func opened(origin int, seqs ...int) []api.Batch {
	var l []api.Batch
	for _, seq := range seqs {
		l = append(l, some(origin, seq, "t"))
	}
	return l
}

var four = []string{"a", "b", "c", "d"}

const maxSeq = 1 << 30

// P16.1: New.
func TestNew(t *testing.T) {
	for _, origin := range []int{1, 2, 64} {
		if l, e := lane.New(origin); !same(l, api.Lane{Origin: origin, Next: 1}) || e != api.OK {
			t.Errorf("%d: %v %d", origin, l, e)
		}
	}
	for _, origin := range []int{0, -1, 65, math.MaxInt, math.MinInt} {
		if l, e := lane.New(origin); !same(l, api.Lane{}) || e != api.ErrArg {
			t.Errorf("%d: %v %d", origin, l, e)
		}
	}
}

// rights are valid lanes, at the edges of what may be.
func rights() []api.Lane {
	long := strings.Repeat("x", 48)
	return []api.Lane{
		{Origin: 1, Next: 1},
		{Origin: 64, Next: maxSeq + 1},
		{Origin: 1, Next: 1, Pool: []string{"a"}},
		{Origin: 1, Next: 1, Pool: []string{"a", long, "\x00"}},
		{Origin: 1, Next: maxSeq + 1, Pool: four},
		{Origin: 1, Next: 9, Pool: four, Open: opened(1, 1)},
		{Origin: 1, Next: 9, Pool: four, Open: opened(1, 1, 2, 3, 4, 5, 6, 7, 8)},
		{Origin: 1, Next: 9, Pool: four[:3], Open: opened(1, 2, 4, 8)},
		{Origin: 2, Next: 20, Open: opened(2, 12, 19)},
		{Origin: 2, Next: maxSeq + 1, Open: opened(2, maxSeq)},
	}
}

// wrongs are lanes that are not valid, each by one part alone.
func wrongs() []api.Lane {
	l := []api.Lane{
		{}, {Origin: 0, Next: 1}, {Origin: -1, Next: 1}, {Origin: 65, Next: 1},
		{Origin: 1}, {Origin: 1, Next: -1}, {Origin: 1, Next: maxSeq + 2}, {Origin: 1, Next: math.MaxInt}, {Origin: 1, Next: math.MinInt},
		{Origin: 1, Next: 1, Pool: four},
		{Origin: 1, Next: maxSeq, Pool: four},
		{Origin: 1, Next: 9, Pool: four, Open: opened(1, 2)},
		{Origin: 1, Next: maxSeq + 1, Pool: append(four[:4:4], "e")},
		{Origin: 1, Next: 1, Pool: []string{""}}, {Origin: 1, Next: 1, Pool: []string{"a", ""}}, {Origin: 1, Next: 1, Pool: []string{strings.Repeat("x", 49)}},
	}
	for _, open := range [][]api.Batch{
		opened(2, 1), opened(1, 9), opened(1, 1, 9), opened(1, 0), opened(1, 2, 2), opened(1, 3, 2), {{}}, {some(1, 1)}, {some(1, 1, "")}, {some(1, 1, "a"), some(3, 2, "a")}, {some(1, 1, "a"), some(1, 2, "a", "b", "c", "d", "e")},
	} {
		l = append(l, api.Lane{Origin: 1, Next: 9, Open: open})
	}
	return append(l, api.Lane{Origin: 1, Next: 10, Open: opened(1, 1)}, api.Lane{Origin: 1, Next: 20, Open: opened(1, 11, 19)})
}

// P16.1: Right.
func TestRight(t *testing.T) {
	for i, l := range rights() {
		if !lane.Right(l) {
			t.Errorf("%d: %v", i, l)
		}
	}
	for i, l := range wrongs() {
		if lane.Right(l) {
			t.Errorf("%d: %v", i, l)
		}
	}
}

// P16.1: Same.
func TestSame(t *testing.T) {
	all := append(rights(), wrongs()...)
	for _, a := range all {
		for _, b := range all {
			if lane.Same(a, b) != same(a, b) {
				t.Errorf("%v and %v", a, b)
			}
		}
		if !lane.Same(a, clone(a)) {
			t.Errorf("%v", a)
		}
	}
	a := api.Lane{Origin: 1, Next: 9, Pool: []string{"a", "b"}, Open: opened(1, 1, 2)}
	for i, change := range []func(l *api.Lane){
		func(l *api.Lane) { l.Origin = 2 }, func(l *api.Lane) { l.Next = 8 },
		func(l *api.Lane) { l.Pool[1] = "c" }, func(l *api.Lane) { l.Pool = l.Pool[:1] }, func(l *api.Lane) { l.Pool = append(l.Pool, "") },
		func(l *api.Lane) { l.Open = l.Open[:1] }, func(l *api.Lane) { l.Open[1].Seq = 3 }, func(l *api.Lane) { l.Open[1].Origin = 3 }, func(l *api.Lane) { l.Open[0].Txs[0] = "z" },
	} {
		b := clone(a)
		change(&b)
		if lane.Same(a, b) || lane.Same(b, a) {
			t.Errorf("change %d", i)
		}
	}
	if !lane.Same(api.Lane{}, api.Lane{Pool: []string{}, Open: []api.Batch{}}) {
		t.Error("lists without elements")
	}
}

// P16.1: Full.
func TestFull(t *testing.T) {
	for many := range 8 {
		if got := lane.Full(api.Lane{Pool: slices.Repeat([]string{"a"}, many)}); got != (many >= 4) {
			t.Errorf("%d: %v", many, got)
		}
	}
}

// P16.2: Submit, by hand.
func TestSubmit(t *testing.T) {
	l, _ := lane.New(3)
	for i, tx := range four {
		before := clone(l)
		next, e := lane.Submit(l, tx)
		if e != api.OK || !same(l, before) {
			t.Fatalf("%q: %d", tx, e)
		}
		want := api.Lane{Origin: 3, Next: 1, Pool: four[:i+1]}
		if i == 3 {
			want = api.Lane{Origin: 3, Next: 2, Open: []api.Batch{some(3, 1, four...)}}
		}
		if !same(next, want) {
			t.Fatalf("%q: %v", tx, next)
		}
		l = next
	}
	if l, e := lane.Submit(l, strings.Repeat("x", 48)); e != api.OK || len(l.Pool) != 1 {
		t.Errorf("48 bytes: %v %d", l, e)
	}
}

// P16.2: Submit, each error, and which of several is named first; the lane comes back as it was.
func TestSubmitErrors(t *testing.T) {
	full := api.Lane{Origin: 1, Next: 9, Pool: four, Open: opened(1, 1)}
	long := strings.Repeat("x", 49)
	for i, x := range []struct {
		l  api.Lane
		tx string
		e  api.Errno
	}{
		{api.Lane{Origin: 1, Next: 1}, "", api.ErrArg},
		{full, "", api.ErrArg},
		{api.Lane{Origin: 1, Next: 1}, long, api.ErrBig},
		{full, long, api.ErrBig},
		{full, strings.Repeat("x", 1000), api.ErrBig},
		{full, "e", api.ErrFull},
		{api.Lane{Pool: append(four[:4:4], "e")}, "f", api.ErrFull},
		{api.Lane{Origin: 1, Next: 1, Pool: four}, "e", api.ErrFull},
	} {
		if got, e := lane.Submit(x.l, x.tx); !same(got, x.l) || e != x.e {
			t.Errorf("%d: %v %d", i, got, e)
		}
	}
}

// P16.2: whether a number is left decides on whether a whole pool becomes a batch.
func TestSubmitLeft(t *testing.T) {
	for i, x := range []struct {
		next   int
		open   []api.Batch
		sealed bool
	}{
		{1, nil, true}, {maxSeq, nil, true}, {maxSeq + 1, nil, false}, {math.MaxInt, nil, false},
		{8, opened(1, 1), true}, {9, opened(1, 1), false}, {9, opened(1, 2), true}, {9, opened(1, 2, 1), true}, {10, opened(1, 2, 9), false}, {10, opened(1, 3, 9), true},
		{maxSeq, opened(1, maxSeq-7), true}, {maxSeq, opened(1, maxSeq-8), false}, {maxSeq + 1, opened(1, maxSeq), false},
		// The difference wraps around, so it is far above any Seq.
		{math.MinInt, opened(1, 1), false}, {math.MinInt, nil, true}, {0, opened(1, 1), true},
	} {
		l := api.Lane{Origin: 1, Next: x.next, Pool: four[:3], Open: x.open}
		want := api.Lane{Origin: 1, Next: x.next, Pool: four, Open: x.open}
		if x.sealed {
			want = api.Lane{Origin: 1, Next: x.next + 1, Open: append(slices.Clone(x.open), some(1, x.next, four...))}
		}
		if got, e := lane.Submit(l, "d"); !same(got, want) || e != api.OK {
			t.Errorf("%d: %v %d", i, got, e)
		}
		// Seal asks the same.
		e, sealed := api.ErrFull, l
		if x.sealed {
			e, sealed = api.OK, api.Lane{Origin: 1, Next: x.next + 1, Open: append(slices.Clone(x.open), some(1, x.next, four[:3]...))}
		}
		if got, gotE := lane.Seal(l); !same(got, sealed) || gotE != e {
			t.Errorf("%d: Seal: %v %d", i, got, gotE)
		}
	}
}

// P16.2: Seal, each error, and which of several is named first.
func TestSeal(t *testing.T) {
	l, _ := lane.New(1)
	if got, e := lane.Seal(l); !same(got, l) || e != api.ErrNone {
		t.Errorf("%v %d", got, e)
	}
	none := api.Lane{Origin: 1, Next: 9, Open: opened(1, 1)}
	if got, e := lane.Seal(none); !same(got, none) || e != api.ErrNone {
		t.Errorf("%v %d", got, e)
	}
	full := api.Lane{Origin: 1, Next: 9, Pool: []string{"a"}, Open: opened(1, 1)}
	if got, e := lane.Seal(full); !same(got, full) || e != api.ErrFull {
		t.Errorf("%v %d", got, e)
	}
	odd := api.Lane{Origin: 99, Next: -4, Pool: []string{"", "a", "b", "c", "d", "e"}}
	if got, e := lane.Seal(odd); !same(got, api.Lane{Origin: 99, Next: -3, Open: []api.Batch{some(99, -4, odd.Pool...)}}) || e != api.OK {
		t.Errorf("%v %d", got, e)
	}
}

// P16.3: Pick.
func TestPick(t *testing.T) {
	l := api.Lane{Origin: 1, Next: 9, Open: opened(1, 1, 2, 3, 4, 5, 6, 7, 8)}
	for _, x := range []struct{ many, want int }{{3, 3}, {1, 1}, {8, 8}, {9, 8}, {math.MaxInt, 8}, {0, 0}, {-1, 0}, {math.MinInt, 0}} {
		if got := lane.Pick(l, x.many); !sameBatches(got, l.Open[:x.want]) {
			t.Errorf("%d: %v", x.many, got)
		}
	}
	if got := lane.Pick(api.Lane{}, 3); len(got) != 0 {
		t.Errorf("%v", got)
	}
}

// P16.3: Ordered.
func TestOrdered(t *testing.T) {
	eight := api.Lane{Origin: 1, Next: 9, Pool: four, Open: opened(1, 1, 2, 3, 4, 5, 6, 7, 8)}
	for i, x := range []struct {
		l    api.Lane
		seq  int
		want api.Lane
	}{
		{eight, 1, api.Lane{Origin: 1, Next: 10, Open: append(opened(1, 2, 3, 4, 5, 6, 7, 8), some(1, 9, four...))}},
		{eight, 2, api.Lane{Origin: 1, Next: 9, Pool: four, Open: opened(1, 1, 3, 4, 5, 6, 7, 8)}},
		{eight, 9, eight},
		{eight, -1, eight},
		{api.Lane{Origin: 1, Next: 9, Pool: four[:3], Open: opened(1, 1, 2)}, 1, api.Lane{Origin: 1, Next: 9, Pool: four[:3], Open: opened(1, 2)}},
		{api.Lane{Origin: 1, Next: 9, Open: opened(1, 4, 2, 4, 4)}, 4, api.Lane{Origin: 1, Next: 9, Open: opened(1, 2)}},
		{api.Lane{Origin: 1, Next: 3, Pool: four, Open: opened(1, 1)}, 7, api.Lane{Origin: 1, Next: 4, Open: append(opened(1, 1), some(1, 3, four...))}},
		{api.Lane{Origin: 1, Next: maxSeq + 1, Pool: four, Open: opened(1, maxSeq)}, maxSeq, api.Lane{Origin: 1, Next: maxSeq + 1, Pool: four}},
		{api.Lane{Origin: 1, Next: 9, Pool: four, Open: opened(1, 1)}, 1, api.Lane{Origin: 1, Next: 10, Open: []api.Batch{some(1, 9, four...)}}},
		{api.Lane{}, 0, api.Lane{}},
	} {
		before := clone(x.l)
		if got := lane.Ordered(x.l, x.seq); !same(got, x.want) {
			t.Errorf("%d: %v", i, got)
		}
		if !same(x.l, before) {
			t.Errorf("%d: changed", i)
		}
	}
}

// P16.4: whatever is done to a lane, it is valid, and what was accepted is in the pool, or in exactly one batch, in order.
func TestNothingLost(t *testing.T) {
	r := rand.New(rand.NewSource(1))
	rejected := 0
	for range 40 {
		l, _ := lane.New(5)
		var accepted []string
		batches := map[int][]string{}
		for i := range 300 {
			switch r.Intn(8) {
			case 0:
				l, _ = lane.Seal(l)
			case 1:
				if len(l.Open) > 0 {
					l = lane.Ordered(l, l.Open[r.Intn(len(l.Open))].Seq)
				}
			default:
				tx := "tx" + string(rune('0'+i))
				next, e := lane.Submit(l, tx)
				if e == api.OK {
					accepted = append(accepted, tx)
				} else if rejected++; e != api.ErrFull || len(l.Open) == 0 || l.Next-8 < l.Open[0].Seq {
					t.Fatalf("rejected: %d %v", e, l)
				}
				l = next
			}
			if !lane.Right(l) {
				t.Fatalf("not valid: %v", l)
			}
			for _, b := range l.Open {
				if was, old := batches[b.Seq]; old && !slices.Equal(was, b.Txs) {
					t.Fatalf("changed: %v", b)
				}
				batches[b.Seq] = b.Txs
			}
			var all []string
			for seq := 1; seq < l.Next; seq++ {
				all = append(all, batches[seq]...)
			}
			if !slices.Equal(append(all, l.Pool...), accepted) {
				t.Fatalf("accepted %q, got %q and %q", accepted, all, l.Pool)
			}
		}
	}
	if rejected == 0 {
		t.Error("none was rejected")
	}
}

// R3, R4: lanes that follow from one do not disturb each other.
func TestTwoFromOne(t *testing.T) {
	base, _ := lane.New(1)
	for _, tx := range []string{"a", "b", "c", "d", "e", "f", "g"} {
		base, _ = lane.Submit(base, tx)
	}
	// Room behind a list's end is where two that follow from it might meet.
	base.Pool, base.Open = slices.Grow(base.Pool, 9), slices.Grow(base.Open, 9)
	before := clone(base)
	one, _ := lane.Submit(base, "one")
	two, _ := lane.Submit(base, "two")
	three, _ := lane.Seal(base)
	other := base
	other.Pool = []string{"x"}
	lane.Seal(other)
	four := lane.Ordered(base, 1)
	five, _ := lane.Submit(four, "five")
	if !same(base, before) || one.Open[1].Txs[3] != "one" || two.Open[1].Txs[3] != "two" || len(three.Open[1].Txs) != 3 || len(four.Open) != 0 || five.Open[0].Txs[3] != "five" {
		t.Errorf("%v %v %v %v %v %v", base, one, two, three, four, five)
	}
}
