package world_test

import (
	"math"
	"reflect"
	"slices"
	"strings"
	"testing"

	"selvedge/api"
	"selvedge/batch"
	"selvedge/book"
	"selvedge/cert"
	"selvedge/node"
	"selvedge/post"
	"selvedge/vertex"
	"selvedge/world"
)

const tape = "tape"

// same: are two values equal? A list without elements may be nil.
func same(a, b any) bool { return reflect.DeepEqual(plain(a), plain(b)) }

// plain is a copy of a value in which each list without elements is nil.
func plain(a any) any {
	v := reflect.New(reflect.TypeOf(a)).Elem()
	v.Set(reflect.ValueOf(a))
	flatten(v)
	return v.Interface()
}

func flatten(v reflect.Value) {
	switch v.Kind() {
	case reflect.Struct:
		for i := range v.NumField() {
			flatten(v.Field(i))
		}
	case reflect.Slice:
		if v.Len() == 0 {
			v.SetZero()
			return
		}
		c := reflect.MakeSlice(v.Type(), v.Len(), v.Len())
		reflect.Copy(c, v)
		for i := range c.Len() {
			flatten(c.Index(i))
		}
		v.Set(c)
	}
}

func fresh(t *testing.T, n, honest int) api.World {
	t.Helper()
	w, e := world.New(n, honest, tape)
	if e != api.OK {
		t.Fatalf("New: %d", e)
	}
	return w
}

// do does acts that succeed.
func do(t *testing.T, w api.World, l ...api.Act) api.World {
	t.Helper()
	for _, a := range l {
		next, e := world.Do(w, a)
		if e != api.OK {
			t.Fatalf("%v: %d", a, e)
		}
		w = next
	}
	return w
}

// with is a world in which a seat has another node.
func with(w api.World, i int, x api.Node) api.World {
	w.L = slices.Clone(w.L)
	w.L[i-1] = x
	return w
}

// P20.1: New.
func TestNew(t *testing.T) {
	for _, x := range []struct{ n, honest int }{{4, 3}, {4, 4}, {7, 5}, {7, 7}, {64, 43}} {
		w, e := world.New(x.n, x.honest, tape)
		want := api.World{N: x.n, Tape: tape}
		for id := 1; id <= x.honest; id++ {
			y, e := node.New(id, x.n, tape)
			if e != api.OK {
				t.Fatal(e)
			}
			want.L = append(want.L, y)
		}
		if !same(w, want) || e != api.OK {
			t.Errorf("%v: %v %d", x, w, e)
		}
	}
	for _, x := range []struct{ n, honest int }{{4, 2}, {4, 5}, {4, 0}, {4, -1}, {7, 4}, {64, 42}, {64, 65}, {5, 4}, {5, 5}, {0, 0}, {1, 1}, {67, 60}, {-4, 3}, {4, math.MaxInt}, {math.MaxInt, 4}, {math.MinInt, 0}} {
		if w, e := world.New(x.n, x.honest, tape); !same(w, api.World{}) || e != api.ErrArg {
			t.Errorf("%v: %v %d", x, w, e)
		}
	}
}

// P20.2: acts that there are none of, and seats that are not honest.
func TestDoErrors(t *testing.T) {
	w := do(t, fresh(t, 4, 3), api.Act{Kind: api.WSubmit, I: 1, Text: "a"}, api.Act{Kind: api.WPropose, I: 1}, api.Act{Kind: api.WSync, I: 1})
	var acts []api.Act
	for _, kind := range []int{0, -1, 10, 11, math.MaxInt, math.MinInt} {
		acts = append(acts, api.Act{Kind: kind, I: 1}, api.Act{Kind: kind, I: 4, Text: "x"}, api.Act{Kind: kind})
	}
	for kind := api.WSubmit; kind <= api.WArm; kind++ {
		for _, i := range []int{0, -1, 4, 5, 64, math.MaxInt, math.MinInt} {
			acts = append(acts, api.Act{Kind: kind, I: i, Text: "a"}, api.Act{Kind: kind, I: i, K: 99, Text: ""})
		}
	}
	for _, i := range []int{0, -1, 1, 2, 3, 5, 64, math.MaxInt, math.MinInt} {
		acts = append(acts, api.Act{Kind: api.WForge, I: i, Text: "x"})
	}
	for _, a := range acts {
		if got, e := world.Do(w, a); !same(got, w) || e != api.ErrArg {
			t.Errorf("%v: %d", a, e)
		}
	}
	for kind := range 11 {
		if got, e := world.Do(api.World{}, api.Act{Kind: kind, I: 1}); !same(got, api.World{}) || e != api.ErrArg {
			t.Errorf("%d in an empty world: %d", kind, e)
		}
	}
}

// stirred is a world in which something is going on.
func stirred(t *testing.T) api.World {
	w := fresh(t, 4, 4)
	for i := 1; i <= 4; i++ {
		w = do(t, w, api.Act{Kind: api.WSubmit, I: i, Text: "tx"}, api.Act{Kind: api.WPropose, I: i}, api.Act{Kind: api.WSync, I: i})
	}
	return do(t, w, api.Act{Kind: api.WSubmit, I: 2, Text: "more"}, api.Act{Kind: api.WDeliver, I: 2, K: 0})
}

// P20.2: what a node's functions return becomes of the seat, with its error; nothing else changes.
func TestActs(t *testing.T) {
	w := stirred(t)
	say := w.Pool[1]
	for i, c := range []struct {
		a  api.Act
		do func(x api.Node) (api.Node, api.Errno)
		e  api.Errno
	}{
		{api.Act{Kind: api.WSubmit, I: 3, Text: ""}, func(x api.Node) (api.Node, api.Errno) { return node.Submit(x, "") }, api.ErrArg},
		{api.Act{Kind: api.WSubmit, I: 3, Text: strings.Repeat("x", 49)}, func(x api.Node) (api.Node, api.Errno) { return node.Submit(x, strings.Repeat("x", 49)) }, api.ErrBig},
		{api.Act{Kind: api.WSeal, I: 2}, node.Seal, api.OK},
		{api.Act{Kind: api.WPropose, I: 4}, node.Propose, api.OK},
		{api.Act{Kind: api.WDeliver, I: 2, K: 2}, func(x api.Node) (api.Node, api.Errno) { return node.Hear(x, w.Book, w.Pool[2]) }, api.OK},
		{api.Act{Kind: api.WDeliver, I: 2, K: len(w.Pool) - 1, Text: "junk"}, func(x api.Node) (api.Node, api.Errno) { return node.Hear(x, w.Book, w.Pool[len(w.Pool)-1]) }, api.ErrNone},
		{api.Act{Kind: api.WRaw, I: 3, Text: "junk", K: 0}, func(x api.Node) (api.Node, api.Errno) { return node.Hear(x, w.Book, "junk") }, api.ErrForm},
		{api.Act{Kind: api.WRaw, I: 1, Text: say}, func(x api.Node) (api.Node, api.Errno) { return node.Hear(x, w.Book, say) }, api.OK},
		{api.Act{Kind: api.WRaw, I: 3, Text: w.Pool[0]}, func(x api.Node) (api.Node, api.Errno) { return node.Hear(x, w.Book, w.Pool[0]) }, api.OK},
		{api.Act{Kind: api.WCrash, I: 2}, func(x api.Node) (api.Node, api.Errno) { return node.Crash(x, 0) }, api.OK},
		{api.Act{Kind: api.WCrash, I: 2, K: 1000}, func(x api.Node) (api.Node, api.Errno) { return node.Crash(x, 1000) }, api.OK},
		{api.Act{Kind: api.WCrash, I: 2, K: -1}, func(x api.Node) (api.Node, api.Errno) { return node.Crash(x, -1) }, api.OK},
		{api.Act{Kind: api.WArm, I: 4, K: 7}, func(x api.Node) (api.Node, api.Errno) { return node.Arm(x, 7), api.OK }, api.OK},
		{api.Act{Kind: api.WArm, I: 4, K: -7}, func(x api.Node) (api.Node, api.Errno) { return node.Arm(x, -7), api.OK }, api.OK},
	} {
		before := plain(w).(api.World)
		x, e := c.do(w.L[c.a.I-1])
		got, gotE := world.Do(w, c.a)
		if e != c.e || gotE != e || !same(got, with(w, c.a.I, x)) {
			t.Errorf("%d: %d and %d", i, gotE, e)
		}
		if !same(w, before) {
			t.Errorf("%d: changed", i)
		}
	}
}

// P20.2: a transaction that was accepted is noted; one that was not is not.
func TestSubmit(t *testing.T) {
	w := fresh(t, 4, 3)
	w = do(t, w, api.Act{Kind: api.WSubmit, I: 3, Text: "a"}, api.Act{Kind: api.WSubmit, I: 1, Text: "b"}, api.Act{Kind: api.WSubmit, I: 3, Text: "a"})
	want := []api.Taken{{Origin: 3, Tx: "a"}, {Origin: 1, Tx: "b"}, {Origin: 3, Tx: "a"}}
	if !slices.Equal(w.Acc, want) || !slices.Equal(w.L[2].Lane.Pool, []string{"a", "a"}) {
		t.Errorf("%v", w.Acc)
	}
	w = do(t, w, api.Act{Kind: api.WArm, I: 3, K: 3})
	got, e := world.Do(w, api.Act{Kind: api.WSubmit, I: 3, Text: "c"})
	if e != api.ErrDead || !got.L[2].Down || !slices.Equal(got.Acc, want) {
		t.Errorf("%v %d", got.Acc, e)
	}
	if again, e := world.Do(got, api.Act{Kind: api.WSubmit, I: 3, Text: "c"}); e != api.ErrDead || !same(again, got) {
		t.Errorf("%d", e)
	}
}

// P20.2: Deliver of a text that there is none of.
func TestDeliverNone(t *testing.T) {
	w := stirred(t)
	for _, k := range []int{len(w.Pool), len(w.Pool) + 1, -1, math.MaxInt, math.MinInt} {
		if got, e := world.Do(w, api.Act{Kind: api.WDeliver, I: 1, K: k}); !same(got, w) || e != api.ErrNone {
			t.Errorf("%d: %d", k, e)
		}
	}
	if got, e := world.Do(w, api.Act{Kind: api.WDeliver, I: 5, K: -1}); !same(got, w) || e != api.ErrArg {
		t.Errorf("%d", e)
	}
}

// P20.2: Sync: what is sent is sealed, and told, once.
func TestSync(t *testing.T) {
	w := fresh(t, 4, 4)
	w = with(w, 1, func() api.Node {
		x := w.L[0]
		x.Out = []api.Send{{Seal: api.Seal{Id: 1, Text: "s"}, Text: "t"}, {Seal: api.Seal{Id: 1, Text: "r"}}, {Text: "u"}, {Text: "t"}, {}, {Seal: api.Seal{Id: 1, Text: "s"}, Text: "u"}, {Seal: api.Seal{Id: 65, Text: "q"}}, {Seal: api.Seal{Text: "p"}}}
		return x
	}())
	x, _, _ := node.Sync(w.L[0])
	want := with(w, 1, x)
	want.Book = []api.Seal{{Id: 1, Text: "r"}, {Id: 1, Text: "s"}}
	want.Pool = []string{"t", "u"}
	got := do(t, w, api.Act{Kind: api.WSync, I: 1})
	if !same(got, want) {
		t.Errorf("%v %v", got.Book, got.Pool)
	}
	// A seat without power sends nothing.
	off := do(t, w, api.Act{Kind: api.WArm, I: 1, K: 0})
	off, e := world.Do(off, api.Act{Kind: api.WSubmit, I: 1, Text: "a"})
	if e != api.ErrDead {
		t.Fatal(e)
	}
	if got, e := world.Do(off, api.Act{Kind: api.WSync, I: 1}); e != api.ErrDead || !same(got, off) || len(got.L[0].Out) != 8 {
		t.Errorf("%d", e)
	}
}

// P20.2: the pool takes no more than 10000 texts; what is sealed is sealed all the same.
func TestPoolFull(t *testing.T) {
	for room := range 3 {
		w := fresh(t, 4, 4)
		for i := range 10000 - room {
			w.Pool = append(w.Pool, strings.Repeat("p", i%7)+string(rune(i+1000)))
		}
		w = do(t, w, api.Act{Kind: api.WPropose, I: 1}, api.Act{Kind: api.WSync, I: 1})
		if len(w.Pool) != 10000 || len(w.Book) != 2 || room == 1 && w.Pool[9999][0] != 'h' || room == 2 && w.Pool[9999][0] != 'y' {
			t.Errorf("room for %d: %d texts, %d seals", room, len(w.Pool), len(w.Book))
		}
	}
}

// P20.2: Forge.
func TestForge(t *testing.T) {
	w := do(t, fresh(t, 7, 5), api.Act{Kind: api.WForge, I: 7, Text: "x"}, api.Act{Kind: api.WForge, I: 6, Text: ""}, api.Act{Kind: api.WForge, I: 7, Text: "x"})
	want := fresh(t, 7, 5)
	want.Book = []api.Seal{{Id: 6}, {Id: 7, Text: "x"}}
	if !same(w, want) {
		t.Errorf("%v", w)
	}
	none := api.World{N: 4}
	for i := 1; i <= 4; i++ {
		if got, e := world.Do(none, api.Act{Kind: api.WForge, I: i, Text: "x"}); e != api.OK || !slices.Equal(got.Book, []api.Seal{{Id: i, Text: "x"}}) {
			t.Errorf("seat %d, where nobody is honest: %v %d", i, got, e)
		}
	}
	odd := api.World{N: 100}
	if got, e := world.Do(odd, api.Act{Kind: api.WForge, I: 99, Text: "x"}); e != api.OK || !same(got, odd) {
		t.Errorf("a seat that no book knows: %v %d", got, e)
	}
}

// plainCalm goes by the words, act by act.
func plainCalm(w api.World, rounds int) api.World {
	act := func(kind, i, k int) { w, _ = world.Do(w, api.Act{Kind: kind, I: i, K: k}) }
	from := 0
	for range rounds {
		for i := 1; i <= len(w.L); i++ {
			act(api.WSeal, i, 0)
			act(api.WPropose, i, 0)
		}
		for range 3 {
			for i := 1; i <= len(w.L); i++ {
				act(api.WSync, i, 0)
			}
			end := len(w.Pool)
			for i := 1; i <= len(w.L); i++ {
				for k := from; k < end; k++ {
					act(api.WDeliver, i, k)
				}
			}
			from = end
		}
	}
	return w
}

// P20.3: Calm, held against the acts one by one: in new worlds, such in which much has happened, and such with seats without power.
func TestCalm(t *testing.T) {
	dead, _ := world.Do(do(t, stirred(t), api.Act{Kind: api.WArm, I: 3, K: 5}), api.Act{Kind: api.WSubmit, I: 3, Text: "x"})
	for i, w := range []api.World{fresh(t, 4, 4), fresh(t, 4, 3), stirred(t), dead, fresh(t, 7, 5), do(t, stirred(t), api.Act{Kind: api.WArm, I: 2, K: 500}), {}} {
		before := plain(w).(api.World)
		for _, rounds := range []int{0, 1, 2, 5, 8} {
			if got := world.Calm(w, rounds); !same(got, plainCalm(w, rounds)) {
				t.Errorf("%d, %d rounds", i, rounds)
			}
		}
		for _, rounds := range []int{-1, math.MinInt} {
			if got := world.Calm(w, rounds); !same(got, w) {
				t.Errorf("%d, %d rounds", i, rounds)
			}
		}
		if !same(w, before) {
			t.Errorf("%d: changed", i)
		}
	}
}

// P20.3, R1: very many rounds, where nothing goes on any more.
func TestCalmEnds(t *testing.T) {
	if got := world.Calm(api.World{}, 1<<20); !same(got, api.World{}) {
		t.Errorf("%v", got)
	}
	w := stirred(t)
	for i := 1; i <= 4; i++ {
		w = do(t, w, api.Act{Kind: api.WArm, I: i, K: 2000 * i})
	}
	got := world.Calm(w, 2000)
	if !got.L[0].Down || !got.L[1].Down {
		t.Error("they have power")
	}
	if !same(got, plainCalm(w, 60)) || !same(world.Calm(got, 2000), plainCalm(got, 3)) {
		t.Error("another world")
	}
	// Without a quorum that has power, the others go on as far as they can.
	w = stirred(t)
	for i := 1; i <= 2; i++ {
		w = do(t, w, api.Act{Kind: api.WArm, I: i, K: 0})
	}
	if !same(world.Calm(w, 2000), plainCalm(w, 20)) {
		t.Error("another world")
	}
	// A transaction that waits longer than anything else goes on is not forgotten: it is sealed in the first round that has it.
	late := do(t, got, api.Act{Kind: api.WCrash, I: 3}, api.Act{Kind: api.WSubmit, I: 3, Text: "late"})
	if !same(world.Calm(late, 40), plainCalm(late, 40)) {
		t.Error("another world, later")
	}
}

// blocksOf are all blocks' transactions of a seat.
func blocksOf(x api.Node) []string {
	var l []string
	for _, b := range x.Blocks {
		l = append(l, b.Txs...)
	}
	return l
}

// The ten examples of the whole.
func TestExamples(t *testing.T) {
	// 1.
	w := do(t, fresh(t, 4, 4), api.Act{Kind: api.WSubmit, I: 1, Text: "a"})
	// 2.
	w = world.Calm(w, 3)
	for _, x := range w.L {
		if len(x.D.L) < 12 {
			t.Errorf("seat %d has %d vertices", x.Id, len(x.D.L))
		}
	}
	// 3.
	w = world.Calm(w, 9)
	for _, x := range w.L {
		if len(x.Blocks) == 0 || !same(x.Blocks, w.L[0].Blocks) || !slices.Contains(x.Blocks[0].Txs, "a") {
			t.Errorf("seat %d: %v", x.Id, x.Blocks)
		}
	}
	// 4.
	crashed := do(t, w, api.Act{Kind: api.WCrash, I: 2})
	if !same(crashed.L[1].Blocks, w.L[1].Blocks) {
		t.Errorf("%v", crashed.L[1].Blocks)
	}
	// 5.
	if got, e := world.Do(w, api.Act{Kind: api.WSubmit, I: 1}); e != api.ErrArg || !same(got, w) {
		t.Error(e)
	}
	// 6.
	if got, e := world.Do(w, api.Act{Kind: api.WRaw, I: 3, Text: "junk"}); e != api.ErrForm || !same(got, w) {
		t.Error(e)
	}
	// 7.
	w = do(t, fresh(t, 4, 3), api.Act{Kind: api.WForge, I: 4, Text: "any text"})
	if !slices.Equal(w.Book, []api.Seal{{Id: 4, Text: "any text"}}) {
		t.Errorf("%v", w.Book)
	}
	// 9.
	w = fresh(t, 4, 4)
	for _, tx := range []string{"a", "b", "c", "d"} {
		w = do(t, w, api.Act{Kind: api.WSubmit, I: 1, Text: tx})
	}
	if !same(w.L[0].Lane, api.Lane{Origin: 1, Next: 2, Open: []api.Batch{{Origin: 1, Seq: 1, Txs: []string{"a", "b", "c", "d"}}}}) {
		t.Errorf("%v", w.L[0].Lane)
	}
	// 10.
	if w, e := world.New(4, 2, tape); e != api.ErrArg || !same(w, api.World{}) {
		t.Error(e)
	}
}

// originOf is what the origin of a batch seals.
func originOf(t *testing.T, b api.Batch) string {
	t.Helper()
	d, e := batch.Digest(b)
	if e != api.OK {
		t.Fatalf("Digest(%v): %d", b, e)
	}
	return cert.Origin(d)
}

// Example 8: a vertex of the seat 4 that is sent to 1 and 2, and another one to 3: at most one of both is certified, whichever votes the seat 4 adds.
func TestTwoVertices(t *testing.T) {
	one := api.Vertex{Author: 4, Round: 1}
	two := api.Vertex{Author: 4, Round: 1, Batches: []api.Batch{{Origin: 4, Seq: 1, Txs: []string{"z"}}}}
	w := fresh(t, 4, 3)
	var digests []string
	var headers []string
	for _, v := range []api.Vertex{one, two} {
		d, e1 := vertex.Digest(v, 4)
		h, e2 := post.Header(v, 4)
		if e1 != api.OK || e2 != api.OK {
			t.Fatal(e1, e2)
		}
		digests, headers = append(digests, d), append(headers, h)
		w = do(t, w, api.Act{Kind: api.WForge, I: 4, Text: cert.Header(d)}, api.Act{Kind: api.WForge, I: 4, Text: cert.Vote(d)})
	}
	w = do(t, w, api.Act{Kind: api.WForge, I: 4, Text: originOf(t, two.Batches[0])})
	w = do(t, w, api.Act{Kind: api.WRaw, I: 1, Text: headers[0]}, api.Act{Kind: api.WRaw, I: 2, Text: headers[0]}, api.Act{Kind: api.WRaw, I: 3, Text: headers[1]})
	for i := 1; i <= 3; i++ {
		for _, h := range headers {
			w, _ = world.Do(w, api.Act{Kind: api.WRaw, I: i, Text: h})
		}
		w = do(t, w, api.Act{Kind: api.WSync, I: i})
	}
	if got := book.By(w.Book, cert.Vote(digests[0])); got != 11 {
		t.Errorf("for one: %b", got)
	}
	if got := book.By(w.Book, cert.Vote(digests[1])); got != 12 {
		t.Errorf("for two: %b", got)
	}
	passed := 0
	for set := range uint64(16) {
		if cert.Check(4, w.Book, api.Proof{V: one, Set: set}) == api.OK {
			passed++
		}
		if cert.Check(4, w.Book, api.Proof{V: two, Set: set}) == api.OK {
			t.Errorf("two, by %b", set)
		}
	}
	if passed != 1 {
		t.Errorf("one, by %d sets", passed)
	}
}

// R1, R2: worlds as no function makes them: every act ends, and what may not be done changes nothing.
func TestOddWorlds(t *testing.T) {
	x, _ := node.New(3, 7, tape)
	odd := x
	odd.Id, odd.N, odd.Has, odd.Set = -1, 5, true, math.MaxUint64
	odd.D.L = []api.Entry{{Digest: "d", V: api.Vertex{Round: math.MaxInt}}, {Digest: "d", V: api.Vertex{Round: math.MinInt}}}
	odd.Lane.Open = []api.Batch{{Origin: -1, Seq: -1}}
	odd.P.Safe = "junk"
	for i, w := range []api.World{
		{L: make([]api.Node, 3)},
		{N: 4, L: []api.Node{x, x, x, x, x, x}},
		{N: -1, L: []api.Node{odd, x, {}}, Pool: []string{"", "junk", "h", "c\x01", "y"}, Book: []api.Seal{{Id: 99, Text: "z"}, {Id: -1}}},
		{N: math.MaxInt, Pool: make([]string, 20000), L: []api.Node{odd}},
	} {
		before := plain(w).(api.World)
		for kind := -1; kind <= 10; kind++ {
			for _, seat := range []int{0, 1, 2, 3, 4, 7, math.MaxInt} {
				for _, text := range []string{"", "a", "h", "s"} {
					got, e := world.Do(w, api.Act{Kind: kind, I: seat, K: len(text), Text: text})
					if e == api.ErrArg && (seat < 1 || seat > len(w.L)) && !same(got, w) {
						t.Errorf("%d: %d %d changed it", i, kind, seat)
					}
				}
			}
		}
		world.Calm(w, 3)
		world.Calm(w, 50)
		if !same(w, before) {
			t.Errorf("%d: changed", i)
		}
	}
}
