package cut_test

import (
	"crypto/sha256"
	"math"
	"math/rand"
	"slices"
	"strings"
	"testing"

	"selvedge/api"
	"selvedge/cut"
	"selvedge/digits"
)

func sameBlock(a, b api.Block) bool {
	return a.Number == b.Number && a.Prev == b.Prev && slices.Equal(a.Txs, b.Txs)
}

func sameBlocks(a, b []api.Block) bool { return slices.EqualFunc(a, b, sameBlock) }

func sameCutter(a, b api.Cutter) bool {
	return a.Number == b.Number && a.Prev == b.Prev && slices.Equal(a.Txs, b.Txs)
}

// plainDigest goes by the words of the promise.
func plainDigest(b api.Block) string {
	number := uint64(0)
	if b.Number > 0 {
		number = uint64(b.Number)
	}
	d := sha256.Sum256([]byte("k" + digits.Num(number) + digits.Text(b.Prev) + digits.Row(b.Txs)))
	return string(d[:])
}

// P15.1: Digest.
func TestDigest(t *testing.T) {
	seen := map[string]int{}
	for i, b := range []api.Block{
		{}, {Number: 1}, {Number: 255}, {Number: 256}, {Number: math.MaxInt},
		{Prev: "p"}, {Prev: "pq"}, {Prev: strings.Repeat("\xff", 300)},
		{Txs: []string{""}}, {Txs: []string{"p"}}, {Txs: []string{"p", "q"}}, {Txs: []string{"pq"}}, {Txs: []string{"q", "p"}},
		{Number: 1, Prev: "p", Txs: []string{"a", "", "b"}}, {Number: 9, Txs: slices.Repeat([]string{"x"}, 300)},
	} {
		d := cut.Digest(b)
		if d != plainDigest(b) {
			t.Errorf("%v: %x", b, d)
		}
		if j, twice := seen[d]; twice {
			t.Errorf("%d and %d", i, j)
		}
		seen[d] = i
	}
	for _, number := range []int{-1, -256, math.MinInt} {
		if cut.Digest(api.Block{Number: number, Prev: "p", Txs: []string{"a"}}) != plainDigest(api.Block{Prev: "p", Txs: []string{"a"}}) {
			t.Errorf("%d", number)
		}
	}
}

func of(size int) string { return strings.Repeat("x", size) }

// P15.1: Fits.
func TestFits(t *testing.T) {
	for _, x := range []struct {
		sizes []int
		size  int
		want  bool
	}{
		{nil, 0, true}, {nil, 128, true}, {nil, 129, true}, {nil, 100000, true},
		{[]int{1}, 127, true}, {[]int{1}, 128, false}, {[]int{128}, 0, true}, {[]int{128}, 1, false}, {[]int{129}, 0, false},
		{[]int{0}, 128, true}, {[]int{0}, 129, false},
		{[]int{48, 48}, 32, true}, {[]int{48, 48}, 33, false},
		{[]int{1, 1, 1, 1, 1}, 1, true}, {[]int{1, 1, 1, 1, 1}, 123, true}, {[]int{1, 1, 1, 1, 1}, 124, false},
		{[]int{1, 1, 1, 1, 1, 1}, 1, false}, {[]int{0, 0, 0, 0, 0, 0}, 0, false}, {[]int{0, 0, 0, 0, 0}, 0, true}, {[]int{0, 0, 0, 0, 0, 0, 0}, 0, false},
	} {
		var txs []string
		for _, size := range x.sizes {
			txs = append(txs, of(size))
		}
		if cut.Fits(txs, of(x.size)) != x.want {
			t.Errorf("%v", x)
		}
	}
}

// P15.2: Feed and Flush, by hand.
func TestByHand(t *testing.T) {
	six := []string{"a", "b", "c", "d", "e", "f"}
	c, l := cut.Feed(api.Cutter{}, six)
	if !sameCutter(c, api.Cutter{Txs: six}) || len(l) != 0 {
		t.Errorf("six: %v %v", c, l)
	}
	first := api.Block{Txs: six}
	c, l = cut.Feed(c, []string{"g"})
	if !sameCutter(c, api.Cutter{Number: 1, Prev: plainDigest(first), Txs: []string{"g"}}) || !sameBlocks(l, []api.Block{first}) {
		t.Errorf("seven: %v %v", c, l)
	}
	second := api.Block{Number: 1, Prev: plainDigest(first), Txs: []string{"g"}}
	c, l = cut.Flush(c)
	if !sameCutter(c, api.Cutter{Number: 2, Prev: plainDigest(second)}) || !sameBlocks(l, []api.Block{second}) {
		t.Errorf("flushed: %v %v", c, l)
	}
	again, l := cut.Flush(c)
	if !sameCutter(again, c) || len(l) != 0 {
		t.Errorf("flushed again: %v %v", again, l)
	}
	again, l = cut.Feed(c, nil)
	if !sameCutter(again, c) || len(l) != 0 {
		t.Errorf("nothing fed: %v %v", again, l)
	}
}

// P15.2: one too long for others stands alone; a cutter that no other function made is taken as it is.
func TestOdd(t *testing.T) {
	long := of(200)
	c, l := cut.Feed(api.Cutter{Number: math.MaxInt, Prev: "p"}, []string{long, "a", long, ""})
	one := api.Block{Number: math.MaxInt, Prev: "p", Txs: []string{long}}
	two := api.Block{Number: math.MinInt, Prev: plainDigest(one), Txs: []string{"a"}}
	three := api.Block{Number: math.MinInt + 1, Prev: plainDigest(two), Txs: []string{long}}
	if !sameBlocks(l, []api.Block{one, two, three}) || !sameCutter(c, api.Cutter{Number: math.MinInt + 2, Prev: plainDigest(three), Txs: []string{""}}) {
		t.Errorf("%v %v", c, l)
	}
	many := slices.Repeat([]string{long}, 9)
	c, l = cut.Feed(api.Cutter{Number: -5, Txs: many}, []string{"a"})
	first := api.Block{Number: -5, Txs: many}
	if !sameBlocks(l, []api.Block{first}) || !sameCutter(c, api.Cutter{Number: -4, Prev: plainDigest(first), Txs: []string{"a"}}) {
		t.Errorf("%v %v", c, l)
	}
	if c, l := cut.Flush(api.Cutter{Number: -5, Txs: many}); !sameBlocks(l, []api.Block{first}) || !sameCutter(c, api.Cutter{Number: -4, Prev: plainDigest(first)}) {
		t.Errorf("%v %v", c, l)
	}
}

// P15.3: Chained.
func TestChained(t *testing.T) {
	chain := func(number int, prev string, many int) []api.Block {
		var l []api.Block
		for i := range many {
			b := api.Block{Number: number + i, Prev: prev, Txs: []string{of(i + 1)}}
			l, prev = append(l, b), plainDigest(b)
		}
		return l
	}
	for _, x := range []struct {
		number int
		prev   string
	}{{0, ""}, {5, "p"}, {-2, "q"}, {math.MaxInt - 1, ""}} {
		for many := range 6 {
			l := chain(x.number, x.prev, many)
			if !cut.Chained(l, x.number, x.prev) {
				t.Errorf("%v, %d", x, many)
			}
			if many > 0 && (cut.Chained(l, x.number+1, x.prev) || cut.Chained(l, x.number, x.prev+"z")) {
				t.Errorf("%v, %d: another beginning", x, many)
			}
			for i := range l {
				for j, change := range []func(b *api.Block){func(b *api.Block) { b.Number++ }, func(b *api.Block) { b.Prev += "x" }, func(b *api.Block) { b.Txs = append(b.Txs, "x") }} {
					w := slices.Clone(l)
					w[i].Txs = slices.Clone(w[i].Txs)
					change(&w[i])
					// What the last block holds, nothing tells.
					if want := j == 2 && i == len(l)-1; cut.Chained(w, x.number, x.prev) != want {
						t.Errorf("%v, %d: change %d of %d", x, many, j, i)
					}
				}
			}
			if many > 2 && (cut.Chained(slices.Delete(slices.Clone(l), 1, 2), x.number, x.prev) || cut.Chained(l[1:], x.number, x.prev)) {
				t.Errorf("%v, %d: one is gone", x, many)
			}
		}
	}
	if !cut.Chained(nil, 7, "any") || !cut.Chained([]api.Block{}, -7, "") {
		t.Error("no blocks")
	}
}

// step is a piece that is fed, or, if flush, a flush.
type step struct {
	flush bool
	txs   []string
}

// run does the steps, and tells all blocks, and which of them a flush cut.
func run(c api.Cutter, steps []step) (api.Cutter, []api.Block, map[int]int) {
	var blocks []api.Block
	flushed := map[int]int{}
	for _, s := range steps {
		var l []api.Block
		if s.flush {
			if c, l = cut.Flush(c); len(l) > 0 {
				flushed[len(blocks)] = 1
			}
		} else {
			c, l = cut.Feed(c, s.txs)
		}
		blocks = append(blocks, l...)
	}
	return c, blocks, flushed
}

func randomSteps(r *rand.Rand) []step {
	var l []step
	for range r.Intn(12) {
		s := step{flush: r.Intn(4) == 0}
		for range r.Intn(9) {
			s.txs = append(s.txs, of(r.Intn(60)*r.Intn(2)+r.Intn(4)))
		}
		l = append(l, s)
	}
	return l
}

// P15.4: nothing is lost; the blocks are chained, full and not empty.
func TestBlocks(t *testing.T) {
	r := rand.New(rand.NewSource(1))
	for range 500 {
		steps := randomSteps(r)
		c, blocks, flushed := run(api.Cutter{Number: 3, Prev: "p"}, steps)
		var fed, got []string
		for _, s := range steps {
			if !s.flush {
				fed = append(fed, s.txs...)
			}
		}
		for i, b := range blocks {
			if len(b.Txs) == 0 {
				t.Fatal("an empty block")
			}
			got = append(got, b.Txs...)
			if flushed[i] == 0 && cut.Fits(b.Txs, fed[len(got)]) {
				t.Fatalf("block %d is not full: %v", i, b)
			}
			for k := range b.Txs {
				if !cut.Fits(b.Txs[:k], b.Txs[k]) {
					t.Fatalf("block %d is too full: %v", i, b)
				}
			}
		}
		if !slices.Equal(append(got, c.Txs...), fed) {
			t.Fatalf("fed %q, got %q and %q", fed, got, c.Txs)
		}
		if !cut.Chained(blocks, 3, "p") || !cut.Chained(append(slices.Clone(blocks), api.Block{Number: c.Number, Prev: c.Prev}), 3, "p") {
			t.Fatal("not chained")
		}
	}
}

// P15.4: the blocks of a beginning are a prefix, however the transactions are cut into pieces.
func TestPrefix(t *testing.T) {
	r := rand.New(rand.NewSource(2))
	for range 200 {
		steps := randomSteps(r)
		c, blocks, _ := run(api.Cutter{}, steps)
		var single []step
		for _, s := range steps {
			if s.flush {
				single = append(single, s)
			}
			for i := range s.txs {
				if !s.flush {
					single = append(single, step{txs: s.txs[i : i+1]})
				}
			}
		}
		one, l, _ := run(api.Cutter{}, single)
		if !sameCutter(c, one) || !sameBlocks(l, blocks) {
			t.Fatal("one by one")
		}
		_, less, _ := run(api.Cutter{}, single[:r.Intn(len(single)+1)])
		if len(less) > len(blocks) || !sameBlocks(less, blocks[:len(less)]) {
			t.Fatal("no prefix")
		}
	}
}

// R3, R4: cutters that follow from one do not disturb each other, and arguments stay as they are.
func TestTwoFromOne(t *testing.T) {
	base, _ := cut.Feed(api.Cutter{}, []string{"a", "b", "c"})
	// Room behind a list's end is where two that follow from it might meet.
	base.Txs = slices.Grow(base.Txs, 9)
	more := []string{"x", "y"}
	one, _ := cut.Feed(base, []string{"one"})
	two, _ := cut.Feed(base, []string{"two"})
	three, l := cut.Flush(base)
	four, _ := cut.Feed(base, more)
	if !slices.Equal(base.Txs, []string{"a", "b", "c"}) || one.Txs[3] != "one" || two.Txs[3] != "two" || len(three.Txs) != 0 || !slices.Equal(l[0].Txs, base.Txs) || len(four.Txs) != 5 || !slices.Equal(more, []string{"x", "y"}) {
		t.Errorf("%v %v %v %v %v", base, one, two, three, l)
	}
}
