package node_test

import (
	"math"
	"math/rand"
	"slices"
	"strconv"
	"strings"
	"testing"

	"selvedge/api"
	"selvedge/book"
	"selvedge/coin"
	"selvedge/cut"
	"selvedge/dag"
	"selvedge/lane"
	"selvedge/node"
	"selvedge/order"
	"selvedge/post"
	"selvedge/vote"
)

// plainCommit goes by the words: what a node is after a vertex was added to its DAG.
func plainCommit(x api.Node) api.Node {
	parts, last, done := order.All(x.D, x.Last, x.Done)
	for _, part := range parts {
		for _, entry := range part {
			for _, b := range entry.V.Batches {
				if order.Fresh(x.Marks, b.Origin, b.Seq) {
					x.Marks = order.Note(x.Marks, b.Origin, b.Seq)
					c, blocks := cut.Feed(x.Cut, b.Txs)
					x.Cut, x.Blocks = c, append(slices.Clone(x.Blocks), blocks...)
					if b.Origin == x.Id {
						x.Lane = lane.Ordered(x.Lane, b.Seq)
					}
				}
			}
		}
		c, blocks := cut.Flush(x.Cut)
		x.Cut, x.Blocks = c, append(slices.Clone(x.Blocks), blocks...)
	}
	x.Last, x.Done = last, done
	if len(parts) > 0 {
		x.D = dag.Drop(x.D, 3*last-2-12)
		x.Votes = vote.Floor(x.Votes, x.D.Low)
	}
	return x
}

// laden is a DAG of so many rounds, vertex by vertex, whose vertices carry batches: of all origins, some of them several times, some out of their order.
func laden(t *testing.T, r *rand.Rand, n, rounds int) []api.Vertex {
	t.Helper()
	var all, before []api.Vertex
	seqs := make([]int, n+1)
	for round := 1; round <= rounds; round++ {
		var row []api.Vertex
		for _, a := range r.Perm(n)[:n-r.Intn((n-1)/3+1)] {
			var parents []api.Vertex
			if round > 1 {
				parents = slices.Clone(before)
				r.Shuffle(len(parents), func(i, j int) { parents[i], parents[j] = parents[j], parents[i] })
				parents = parents[:n-(n-1)/3]
			}
			v := over(t, n, a+1, round, parents...)
			for range r.Intn(4) {
				origin := 1 + r.Intn(n)
				seqs[origin]++
				seq := max(1, seqs[origin]-r.Intn(3))
				var txs []string
				for range 1 + r.Intn(4) {
					txs = append(txs, strings.Repeat("t", 1+r.Intn(48)))
				}
				v.Batches = append(v.Batches, api.Batch{Origin: origin, Seq: seq, Txs: txs})
			}
			row = append(row, v)
		}
		all, before = append(all, row...), row
	}
	return all
}

// P19.4: what is certified is committed as the words say: the batches that are fresh, block by block; the DAG and the votes are dropped.
func TestCommit(t *testing.T) {
	r := rand.New(rand.NewSource(1))
	ordered, dropped := 0, 0
	for range 6 {
		x := fresh(t, 2, 4)
		for range 9 {
			next, e := node.Submit(x, "own")
			x = must(t, next, e)
		}
		for _, v := range laden(t, r, 4, 24) {
			b := sealAll(t, nil, 4, v)
			if y, e := node.Hear(x, b, headerOf(t, v, 4)); e == api.OK {
				x = y
			}
			y, e := node.Hear(x, b, proofOf(t, v, 4, 7))
			y = must(t, y, e)
			want := x
			want.D, e = dag.Add(x.D, v)
			want = plainCommit(must(t, want, e))
			if !unchanged(y, want, "P", "Out") {
				t.Fatalf("%+v, not %+v", y, want)
			}
			if len(want.Lane.Open) < len(x.Lane.Open) {
				ordered++
			}
			if want.D.Low > x.D.Low {
				dropped++
			}
			x = y
		}
		if len(x.Blocks) < 5 || !cut.Chained(x.Blocks, 0, "") || x.Last < 5 {
			t.Errorf("%d blocks, wave %d", len(x.Blocks), x.Last)
		}
		// What is dropped takes its votes along.
		if x.D.Low != 3*x.Last-14 || slices.ContainsFunc(x.Votes, func(b api.Ballot) bool { return b.Round <= x.D.Low }) {
			t.Errorf("%d %v", x.D.Low, x.Votes)
		}
	}
	if ordered == 0 || dropped == 0 {
		t.Errorf("%d %d", ordered, dropped)
	}
}

// P19.4: where nothing is committed, nothing is dropped, whatever the last wave was.
func TestCommitNothing(t *testing.T) {
	x := fresh(t, 1, 4)
	x.Last = 9
	x.Votes = []api.Ballot{{Author: 1, Round: -5}, {Author: 2, Round: 3}}
	y := hearAll(t, x, grid(t, 4, 2)...)
	if y.D.Low != 0 || len(y.D.L) != 8 || !same(y.Votes, x.Votes) || y.Last != 9 || len(y.Blocks) != 0 {
		t.Errorf("%+v", y)
	}
}

// P19.1, P19.6: a node that starts from what another one has written is the same, but for what the words except.
func TestReplay(t *testing.T) {
	r := rand.New(rand.NewSource(2))
	x := fresh(t, 2, 4)
	for _, v := range laden(t, r, 4, 20) {
		if r.Intn(3) == 0 {
			if y, e := node.Submit(x, "tx"); e == api.OK {
				x = y
			}
		}
		if y, e := node.Hear(x, sealAll(t, nil, 4, v), headerOf(t, v, 4)); e == api.OK {
			x = y
		}
		x = hearAll(t, x, []api.Vertex{v})
		if r.Intn(4) == 0 {
			x, _ = node.Propose(x)
		}
	}
	x, out := synced(t, x)
	y, e := node.Crash(x, 0)
	if e != api.OK || !unchanged(x, y, "Set", "Wait", "Out") || y.Set != 2 {
		t.Fatalf("%+v, not %+v", y, x)
	}
	// The proofs are sent again.
	proofs := slices.DeleteFunc(out, func(s api.Send) bool { return post.Kind(s.Text) != 'c' })
	if !same(y.Out, proofs) || len(proofs) < 40 {
		t.Errorf("%d and %d", len(y.Out), len(proofs))
	}
}

// committee are nodes, what they and others have sealed, and all that was sent.
type committee struct {
	t    *testing.T
	r    *rand.Rand
	n    int
	l    []api.Node
	book []api.Seal
	pool []string
	next []int             // by node, up to where of the pool it has heard
	told map[string]string // by seat and place, for which digest it sealed a header or a vote
}

// tell keeps what a node sends; it fails if that is another thing than it sent before.
func (c *committee) tell(id int, out []api.Send) {
	for _, s := range out {
		if s.Seal.Id != 0 {
			if s.Seal.Id != id {
				c.t.Fatalf("%d seals as %d", id, s.Seal.Id)
			}
			c.book = book.Put(c.book, s.Seal)
		}
		if s.Text != "" && !slices.Contains(c.pool, s.Text) {
			c.pool = append(c.pool, s.Text)
		}
		key, digest := "", ""
		if v, e := post.TakeHeader(s.Text, c.n); e == api.OK {
			key, digest = "h"+strconv.Itoa(v.Round), digestOf(c.t, v, c.n)
		}
		if y, e := post.TakeSay(s.Text); e == api.OK {
			key, digest = "y"+strconv.Itoa(y.Author)+" "+strconv.Itoa(y.Round), y.Digest
		}
		if key != "" {
			key = strconv.Itoa(id) + key
			if was, twice := c.told[key]; twice && was != digest {
				c.t.Fatalf("%s: two digests", key)
			}
			c.told[key] = digest
		}
	}
}

// act lets a node do something that chance picks.
func (c *committee) act(i int) {
	x := c.l[i]
	var y api.Node
	var e api.Errno
	safe := false
	switch c.r.Intn(40) {
	case 0, 1:
		y, e = node.Submit(x, "tx"+strconv.Itoa(c.r.Intn(50)))
		safe = e == api.OK
	case 2:
		y, e = node.Seal(x)
	case 3, 4, 5:
		y, e = node.Propose(x)
	case 6, 7, 8, 9:
		var out []api.Send
		y, out, e = node.Sync(x)
		c.tell(x.Id, out)
		safe = e == api.OK
	case 10:
		if c.r.Intn(3) > 0 {
			return
		}
		y, e = node.Crash(x, c.r.Intn(200)-10)
		if e != api.OK || y.Down {
			c.t.Fatal(e)
		}
		k := min(len(x.Blocks), len(y.Blocks))
		if !same(x.Blocks[:k], y.Blocks[:k]) || len(y.Blocks) > len(x.Blocks) {
			c.t.Fatal("other blocks after the crash")
		}
		c.l[i], c.next[i] = y, max(0, len(c.pool)-150)
		return
	case 11:
		if c.r.Intn(6) == 0 {
			c.l[i] = node.Arm(x, c.r.Intn(3000))
		}
		return
	default:
		// Mostly what comes next, sometimes anything, sometimes not at all.
		at := c.next[i]
		if c.r.Intn(8) == 0 && len(c.pool) > 0 {
			at = c.r.Intn(len(c.pool))
		} else if at < len(c.pool) {
			c.next[i]++
		}
		if at >= len(c.pool) {
			c.next[i] = max(0, len(c.pool)-100)
			return
		}
		if c.r.Intn(20) == 0 {
			return
		}
		y, e = node.Hear(x, c.book, c.pool[at])
	}
	c.check(x, y, e, safe)
	c.l[i] = y
}

// calm lets all go on for a round, as far as they have power.
func (c *committee) calm() {
	for i, x := range c.l {
		y, e := node.Propose(x)
		c.check(x, y, e, false)
		c.l[i] = y
	}
	from := max(0, len(c.pool)-60)
	for range 3 {
		for i, x := range c.l {
			y, out, e := node.Sync(x)
			c.tell(x.Id, out)
			c.check(x, y, e, e == api.OK)
			c.l[i] = y
		}
		end := len(c.pool)
		for i := range c.l {
			for k := from; k < end; k++ {
				x := c.l[i]
				y, e := node.Hear(x, c.book, c.pool[k])
				c.check(x, y, e, false)
				c.l[i] = y
			}
		}
		from = end
	}
}

// check holds a node against what it was before.
func (c *committee) check(x, y api.Node, e api.Errno, safe bool) {
	// To hold all of two nodes against each other takes long: now and then is enough.
	if e != api.OK && !y.Down && c.r.Intn(10) == 0 && !unchanged(x, y, "Wait", "Set") {
		c.t.Fatalf("changed in spite of %d", e)
	}
	if x.Down && (e != api.ErrDead || !same(x, y)) {
		c.t.Fatalf("without power: %d", e)
	}
	if len(y.Blocks) < len(x.Blocks) || !same(y.Blocks[:len(x.Blocks)], x.Blocks) || !cut.Chained(y.Blocks, 0, "") {
		c.t.Fatal("blocks that were cut do not remain")
	}
	if x.P == y.P {
		return
	}
	if !vote.Right(y.Votes) || !dag.Right(y.D) || !lane.Right(y.Lane) || !order.Right(y.Marks) || len(y.Wait) > 16 {
		c.t.Fatalf("not valid: %+v", y)
	}
	if safe {
		z, e := node.Crash(y, 0)
		if e != api.OK || !unchanged(y, z, "Set", "Wait", "Out", "P") || z.P.Safe != y.P.Safe {
			c.t.Fatalf("a crash loses something: %+v, was %+v", z, y)
		}
	}
}

// forge seals, in the name of a seat that is not honest, two vertices of a round, and votes for anything.
func (c *committee) forge(id int) {
	d := c.l[c.r.Intn(len(c.l))].D
	top := 0
	for _, x := range d.L {
		top = max(top, x.V.Round)
	}
	round := max(1, top+1-c.r.Intn(2))
	v := api.Vertex{Author: id, Round: round}
	if round > 1 {
		before := dag.Round(d, round-1)
		if len(before) < 3 {
			return
		}
		for _, i := range c.r.Perm(len(before))[:3] {
			v.Parents = append(v.Parents, before[i].Digest)
		}
		slices.Sort(v.Parents)
	}
	if round%3 == 0 {
		v.Share = coin.Own(tape, round/3, c.n, id)
	}
	if c.r.Intn(2) == 0 {
		v.Batches = []api.Batch{{Origin: id, Seq: 1 + c.r.Intn(20), Txs: []string{"forged" + strconv.Itoa(c.r.Intn(9))}}}
	}
	for _, s := range sealAll(c.t, nil, c.n, v) {
		if s.Id == id {
			c.book = book.Put(c.book, s)
		}
	}
	c.pool = append(c.pool, headerOf(c.t, v, c.n))
	for _, s := range c.book {
		if s.Id != id && s.Text[0] == 'y' && c.r.Intn(8) == 0 {
			c.book = book.Put(c.book, api.Seal{Id: id, Text: s.Text})
		}
	}
}

// P19.6: whatever is heard, and however often it crashes, no node announces two vertices of a round, or votes twice; what was safe stays.
func TestAnyRun(t *testing.T) {
	most := 0
	for seed := range int64(6) {
		r := rand.New(rand.NewSource(seed))
		c := &committee{t: t, r: r, n: 4, next: make([]int, 4), told: map[string]string{}}
		honest := 4 - int(seed%2)
		for id := 1; id <= honest; id++ {
			c.l = append(c.l, fresh(t, id, 4))
		}
		for step := range 2500 {
			c.act(r.Intn(honest))
			if step%100 == 99 {
				c.calm()
			}
			if honest < 4 && r.Intn(60) == 0 {
				c.forge(4)
			}
		}
		blocks, rounds := 0, 0
		for i := range c.l {
			for j := range c.l {
				k := min(len(c.l[i].Blocks), len(c.l[j].Blocks))
				if !same(c.l[i].Blocks[:k], c.l[j].Blocks[:k]) {
					t.Fatalf("seed %d: other blocks", seed)
				}
			}
			blocks, rounds = max(blocks, len(c.l[i].Blocks)), max(rounds, c.l[i].Mine.Round)
		}
		if most = max(most, blocks); rounds < 7 {
			t.Errorf("seed %d: %d rounds, %d blocks", seed, rounds, blocks)
		}
	}
	if most < 3 {
		t.Errorf("no more than %d blocks", most)
	}
}

// oddNode is a node as no function makes it.
func oddNode(r *rand.Rand) api.Node {
	num := func() int {
		return []int{0, 1, 2, 3, 4, 5, 7, 64, 65, -1, 1 << 20, 1<<20 + 1, math.MaxInt, math.MinInt, math.MaxInt - 1}[r.Intn(15)]
	}
	text := func() string {
		return []string{"", "a", strings.Repeat("d", 32), strings.Repeat("e", 32), strings.Repeat("x", 60), "\xff"}[r.Intn(6)]
	}
	texts := func() []string {
		var l []string
		for range r.Intn(5) {
			l = append(l, text())
		}
		return l
	}
	batches := func() []api.Batch {
		var l []api.Batch
		for range r.Intn(6) {
			l = append(l, api.Batch{Origin: num(), Seq: num(), Txs: texts()})
		}
		return l
	}
	some := func() api.Vertex {
		return api.Vertex{Author: num(), Round: num(), Batches: batches(), Parents: texts(), Share: api.Elem{A: num(), B: num()}}
	}
	x := api.Node{Id: num(), N: num(), Tape: text(), P: api.Paper{Safe: text(), Wait: text(), Fuse: num(), Off: r.Intn(4) == 0}, Lane: api.Lane{Origin: num(), Next: num(), Pool: texts(), Open: batches()}, Mine: some(), Has: r.Intn(2) == 0, Set: r.Uint64(), Last: num(), Done: texts(), Down: r.Intn(4) == 0}
	if r.Intn(2) == 0 {
		x.Id, x.N = 1+r.Intn(4), 4
	}
	x.D.N, x.D.Low = num(), num()
	if r.Intn(2) == 0 {
		x.D.N, x.D.Low = 4, r.Intn(3)
	}
	for range r.Intn(8) {
		x.D.L = append(x.D.L, api.Entry{Digest: text(), V: some()})
		x.Votes = append(x.Votes, api.Ballot{Author: num(), Round: num(), Digest: text()})
		x.Wait = append(x.Wait, api.Proof{V: some(), Set: r.Uint64()})
		x.Marks = append(x.Marks, api.Mark{Origin: num(), Low: num(), Above: []int{num(), num()}})
		x.Blocks = append(x.Blocks, api.Block{Number: num(), Prev: text(), Txs: texts()})
		x.Out = append(x.Out, api.Send{Seal: api.Seal{Id: num(), Text: text()}, Text: text()})
	}
	x.Cut = api.Cutter{Number: num(), Prev: text(), Txs: texts()}
	return x
}

// R1, R3: every function ends, and changes nothing that it was given, whatever a node holds.
func TestOddNodes(t *testing.T) {
	r := rand.New(rand.NewSource(3))
	v := over(t, 4, 2, 1)
	b := sealAll(t, nil, 4, v)
	hears := []string{"", "junk", headerOf(t, v, 4), proofOf(t, v, 4, 7), sayOf(t, 2, 1, 3, digestOf(t, v, 4)), sayOf(t, 1, 1, 1, strings.Repeat("d", 32))}
	for range 4000 {
		x := oddNode(r)
		if r.Intn(3) == 0 {
			x.Mine, x.Has, x.Id, x.N = v, true, 2, 4
		}
		before := plain(x).(api.Node)
		check := func(y api.Node, e api.Errno) {
			if x.Down && (e != api.ErrDead || !same(x, y)) {
				t.Fatalf("without power: %d", e)
			}
			if e != api.OK && !y.Down && !unchanged(x, y, "Wait", "Set") {
				t.Fatalf("%d: %+v, was %+v", e, y, x)
			}
		}
		for _, text := range hears {
			check(node.Hear(x, b, text))
		}
		check(node.Submit(x, "a"))
		check(node.Seal(x))
		check(node.Propose(x))
		y, _, e := node.Sync(x)
		check(y, e)
		node.Crash(x, r.Intn(50)-20)
		node.Arm(x, r.Intn(50)-20)
		node.Start(x.Id, x.N, x.Tape, x.P)
		if !same(x, before) {
			t.Fatal("changed")
		}
	}
}

// R3, R4: nodes that follow from one do not disturb each other, and the one stays as it was.
func TestTwoFromOne(t *testing.T) {
	x := fresh(t, 1, 4)
	for _, tx := range []string{"a", "b", "c", "d", "e"} {
		next, e := node.Submit(x, tx)
		x = must(t, next, e)
	}
	g := grid(t, 4, 2)
	x = hearAll(t, x, g[0])
	x, _ = node.Propose(x)
	before := plain(x).(api.Node)
	one, _ := node.Submit(x, "one")
	two, _ := node.Submit(x, "two")
	three := hearAll(t, x, g[1][:1])
	four := hearAll(t, x, g[1][1:2])
	five, _ := node.Hear(x, sealAll(t, nil, 4, g[1][2]), headerOf(t, g[1][2], 4))
	six, _ := node.Propose(x)
	if !same(x, before) {
		t.Error("changed")
	}
	if !slices.Equal(one.Lane.Pool, []string{"e", "one"}) || !slices.Equal(two.Lane.Pool, []string{"e", "two"}) || three.D.L[4].V.Author != 1 || four.D.L[4].V.Author != 2 || five.Votes[len(five.Votes)-1].Author != 3 || len(six.Out) != len(x.Out)+3 {
		t.Errorf("%v %v %v %v %v %v", one.Lane, two.Lane, three.D, four.D, five.Votes, six.Out)
	}
}
