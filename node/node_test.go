package node_test

import (
	"math"
	"slices"
	"strings"
	"testing"

	"selvedge/api"
	"selvedge/book"
	"selvedge/cert"
	"selvedge/coin"
	"selvedge/node"
	"selvedge/paper"
	"selvedge/post"
)

// P19.1: New.
func TestNew(t *testing.T) {
	for _, x := range []struct{ id, n int }{{1, 4}, {4, 4}, {7, 7}, {64, 64}} {
		got, e := node.New(x.id, x.n, tape)
		want := api.Node{Id: x.id, N: x.n, Tape: tape, P: api.Paper{Fuse: -1}, Lane: api.Lane{Origin: x.id, Next: 1}, D: api.Dag{N: x.n}}
		if !same(got, want) || e != api.OK {
			t.Errorf("%v: %v %d", x, got, e)
		}
	}
	for _, x := range []struct{ id, n int }{{5, 4}, {0, 4}, {-1, 4}, {1, 5}, {1, 0}, {1, 3}, {1, 67}, {65, 64}, {math.MaxInt, 4}, {math.MinInt, 4}, {1, math.MaxInt}, {1, math.MinInt}} {
		if got, e := node.New(x.id, x.n, tape); !same(got, api.Node{}) || e != api.ErrArg {
			t.Errorf("%v: %v %d", x, got, e)
		}
		if got, e := node.Start(x.id, x.n, tape, api.Paper{Safe: "x"}); !same(got, api.Node{}) || e != api.ErrArg {
			t.Errorf("%v: %v %d", x, got, e)
		}
	}
}

// P19.1: Start: each kind of record does what it says, what is rejected does nothing, and proofs that were added are sent.
func TestStart(t *testing.T) {
	g := grid(t, 4, 2)
	mine := over(t, 4, 2, 2, g[0]...)
	proofs := []string{proofOf(t, g[0][0], 4, 7), proofOf(t, g[0][1], 4, 15), proofOf(t, g[0][2], 4, 14)}
	other := g[0][3]
	other.Batches = []api.Batch{{Origin: 1, Seq: 1, Txs: []string{"z"}}}
	d := strings.Repeat("d", 32)
	recs := []string{
		"ta", "t", "t" + strings.Repeat("x", 49), "sx", "s ", "tb", "s", "s", "tc", "", "junk", "y",
		ballotOf(t, 1, 1, d), ballotOf(t, 1, 1, strings.Repeat("e", 32)), ballotOf(t, 64, 9, d), "v", ballotOf(t, 1, 1, d)[:30],
		proofs[0], proofs[0], proofs[1], proofOf(t, g[1][0], 4, 7), "c", proofs[2],
		headerOf(t, g[0][1], 4), headerOf(t, mine, 4), "h\x01\x05",
		sayOf(t, 2, 2, 3, digestOf(t, mine, 4)),
	}
	p := api.Paper{Safe: frames(t, recs[:7]...), Wait: frames(t, recs[7:]...) + "torn", Fuse: 9, Off: true}
	got, e := node.Start(2, 4, tape, p)
	want := api.Node{
		Id: 2, N: 4, Tape: tape, P: p,
		Lane:  api.Lane{Origin: 2, Next: 2, Pool: []string{"c"}, Open: []api.Batch{{Origin: 2, Seq: 1, Txs: []string{"a", "b"}}}},
		Votes: []api.Ballot{{Author: 1, Round: 1, Digest: d}, {Author: 64, Round: 9, Digest: d}},
		Mine:  mine, Has: true, Set: 2,
		D: api.Dag{N: 4}, Out: []api.Send{{Text: proofs[0]}, {Text: proofs[1]}, {Text: proofs[2]}},
	}
	for _, v := range g[0][:3] {
		want.D.L = append(want.D.L, api.Entry{Digest: digestOf(t, v, 4), V: v})
	}
	if !same(got, want) || e != api.OK {
		t.Errorf("%+v %d", got, e)
	}
}

// P19.1: what comes behind a torn record is not read.
func TestStartTorn(t *testing.T) {
	p := api.Paper{Safe: frames(t, "ta") + "\x09" + frames(t, "tb"), Wait: frames(t, "tc"), Fuse: -1}
	if x, e := node.Start(1, 4, tape, p); e != api.OK || !slices.Equal(x.Lane.Pool, []string{"a"}) || x.P != p {
		t.Errorf("%v %d", x, e)
	}
}

// P19.2: Submit: it is written, and safe.
func TestSubmit(t *testing.T) {
	x := fresh(t, 1, 4)
	y, e := node.Submit(x, "ab")
	if e != api.OK || !slices.Equal(y.Lane.Pool, []string{"ab"}) || y.P != (api.Paper{Safe: frames(t, "tab"), Fuse: -1}) || !unchanged(x, y, "P", "Lane") {
		t.Errorf("%v %d", y, e)
	}
	if !same(x, fresh(t, 1, 4)) {
		t.Error("changed")
	}
	// What was written before, and waits, is made safe with it.
	y, e = node.Seal(y)
	y = must(t, y, e)
	if y.P.Wait != frames(t, "s") {
		t.Errorf("%v", y.P)
	}
	y, e = node.Submit(y, "c")
	if e != api.OK || y.P.Safe != frames(t, "tab", "s", "tc") || y.P.Wait != "" {
		t.Errorf("%v %d", y.P, e)
	}
}

// filled is a node whose lane takes no more.
func filled(t *testing.T, x api.Node) api.Node {
	t.Helper()
	for range 36 {
		next, e := node.Submit(x, "t")
		x = must(t, next, e)
	}
	return x
}

// P19.2: Submit and Seal, each error: nothing is written.
func TestSubmitErrors(t *testing.T) {
	x := fresh(t, 1, 4)
	full := filled(t, x)
	dead := down(t, x)
	for i, c := range []struct {
		x  api.Node
		tx string
		e  api.Errno
	}{
		{x, "", api.ErrArg}, {full, "", api.ErrArg},
		{x, strings.Repeat("x", 49), api.ErrBig}, {full, strings.Repeat("x", 49), api.ErrBig},
		{full, "a", api.ErrFull},
		{dead, "a", api.ErrDead}, {dead, "", api.ErrDead},
	} {
		if y, e := node.Submit(c.x, c.tx); !same(y, c.x) || e != c.e {
			t.Errorf("%d: %v %d", i, y, e)
		}
	}
	if y, e := node.Submit(x, strings.Repeat("x", 48)); e != api.OK || len(y.Lane.Pool) != 1 {
		t.Error(e)
	}
	for i, c := range []struct {
		x api.Node
		e api.Errno
	}{{x, api.ErrNone}, {full, api.ErrFull}, {dead, api.ErrDead}} {
		if y, e := node.Seal(c.x); !same(y, c.x) || e != c.e {
			t.Errorf("Seal %d: %v %d", i, y, e)
		}
	}
}

// P19.2: Seal: it is written, but not safe yet.
func TestSeal(t *testing.T) {
	x, e := node.Submit(fresh(t, 3, 4), "a")
	x = must(t, x, e)
	y, e := node.Seal(x)
	want := api.Lane{Origin: 3, Next: 2, Open: []api.Batch{{Origin: 3, Seq: 1, Txs: []string{"a"}}}}
	if e != api.OK || !same(y.Lane, want) || y.P != (api.Paper{Safe: frames(t, "ta"), Wait: frames(t, "s"), Fuse: -1}) || !unchanged(x, y, "P", "Lane") {
		t.Errorf("%v %d", y, e)
	}
}

// P19.2: errors of writing: the node is down, with what was written until then.
func TestWriteErrors(t *testing.T) {
	x := fresh(t, 1, 4)
	f := frames(t, "ta")
	for fuse := range len(f) {
		y, e := node.Submit(node.Arm(x, fuse), "a")
		want := x
		want.P, want.Down = api.Paper{Wait: f[:fuse], Off: true}, true
		if !same(y, want) || e != api.ErrDead {
			t.Errorf("fuse %d: %v %d", fuse, y, e)
		}
	}
	if y, e := node.Submit(node.Arm(x, len(f)), "a"); e != api.OK || y.Down || y.P != (api.Paper{Safe: f}) {
		t.Errorf("%v %d", y, e)
	}
	full, e := node.Start(1, 4, tape, api.Paper{Safe: strings.Repeat("\xff", 1<<20-3), Fuse: -1})
	full = must(t, full, e)
	want := full
	want.Down = true
	if y, e := node.Submit(full, "a"); !same(y, want) || e != api.ErrFull {
		t.Errorf("%d %v", e, y.Down)
	}
	x, e = node.Submit(x, "a")
	x = must(t, x, e)
	y, e := node.Seal(node.Arm(x, 2))
	want = x
	want.P, want.Down = api.Paper{Safe: f, Wait: frames(t, "s")[:2], Off: true}, true
	if !same(y, want) || e != api.ErrDead {
		t.Errorf("%v %d", y, e)
	}
}

// P19.3: Propose at the beginning, and again.
func TestPropose(t *testing.T) {
	x := fresh(t, 2, 4)
	v := api.Vertex{Author: 2, Round: 1}
	d := digestOf(t, v, 4)
	y, e := node.Propose(x)
	want := x
	want.P.Wait = frames(t, headerOf(t, v, 4), ballotOf(t, 2, 1, d))
	want.Mine, want.Has, want.Set = v, true, 2
	want.Votes = []api.Ballot{{Author: 2, Round: 1, Digest: d}}
	want.Out = announced(t, 2, 4, v)
	if !same(y, want) || e != api.OK {
		t.Fatalf("%+v %d", y, e)
	}
	y, out := synced(t, y)
	if !same(out, want.Out) || len(out) != 2 {
		t.Errorf("%v", out)
	}
	z, e := node.Propose(y)
	if e != api.OK || !same(z.Out, want.Out) || !unchanged(y, z, "Out") {
		t.Errorf("again: %+v %d", z, e)
	}
	z, e = node.Propose(z)
	if e != api.OK || len(z.Out) != 4 {
		t.Errorf("a third time: %v %d", z.Out, e)
	}
}

// P19.3: the batches of a vertex are the first open ones, and each is sealed.
func TestProposeBatches(t *testing.T) {
	x := fresh(t, 1, 4)
	for range 21 {
		next, e := node.Submit(x, "t")
		x = must(t, next, e)
	}
	y, e := node.Propose(x)
	y = must(t, y, e)
	var want []api.Batch
	for seq := 1; seq <= 4; seq++ {
		want = append(want, api.Batch{Origin: 1, Seq: seq, Txs: []string{"t", "t", "t", "t"}})
	}
	if !same(y.Mine.Batches, want) || len(y.Lane.Open) != 5 || !same(y.Lane, x.Lane) {
		t.Errorf("%v", y.Mine)
	}
	if !same(y.Out, announced(t, 1, 4, y.Mine)) || len(y.Out) != 6 {
		t.Errorf("%v", y.Out)
	}
}

// P19.3: the round, the parents and the share.
func TestProposeRounds(t *testing.T) {
	g := grid(t, 4, 6)
	x := fresh(t, 3, 4)
	for r := 1; r <= 6; r++ {
		// Below a quorum it is still the round before.
		less := hearAll(t, x, g[r-1][:2])
		y, e := node.Propose(less)
		if e != api.OK || y.Mine.Round != r {
			t.Errorf("%d: %v %d", r, y.Mine, e)
		}
		enough := hearAll(t, less, g[r-1][2:3])
		y, e = node.Propose(enough)
		if want := over(t, 4, 3, r+1, g[r-1][:3]...); e != api.OK || !same(y.Mine, want) {
			t.Errorf("%d: %v %d", r, y.Mine, e)
		}
		all := hearAll(t, enough, g[r-1][3:])
		y, e = node.Propose(all)
		if want := over(t, 4, 3, r+1, g[r-1]...); e != api.OK || !same(y.Mine, want) || (r+1)%3 == 0 && y.Mine.Share != coin.Own(tape, (r+1)/3, 4, 3) {
			t.Errorf("%d: %v %d", r, y.Mine, e)
		}
		x = all
	}
}

// P19.3: each error.
func TestProposeErrors(t *testing.T) {
	x := fresh(t, 1, 4)
	g := grid(t, 4, 1)
	// A vertex of a round above the next one.
	busy := hearAll(t, x, g[0])
	busy, e := node.Propose(busy)
	busy = must(t, busy, e)
	busy.D = api.Dag{N: 4}
	// Rounds at the end of all rounds, and such that wrap around; parents that are none.
	far := func(round int, digest string) api.Node {
		y := x
		for a := 1; a <= 3; a++ {
			y.D.L = append(slices.Clone(y.D.L), api.Entry{Digest: strings.Repeat(string(rune('a'+a)), 31) + digest, V: api.Vertex{Author: a, Round: round}})
		}
		return y
	}
	later := far(1<<20, "x")
	later.Has, later.Mine.Round = true, 1<<20+5
	third := far(1<<20-1, "x")
	if y, e := node.Propose(third); e != api.OK || y.Mine.Round != 1<<20 {
		t.Errorf("the last round: %v %d", y.Mine, e)
	}
	foreign := x
	foreign.Lane.Open = []api.Batch{{Origin: 5, Seq: 1, Txs: []string{"a"}}}
	for i, c := range []struct {
		x api.Node
		e api.Errno
	}{
		{busy, api.ErrBusy},
		{far(1<<20, "x"), api.ErrBig},
		{later, api.ErrBig},
		{far(math.MaxInt-1, "x"), api.ErrBig},
		{far(1, "xx"), api.ErrArg},
		{far(1, ""), api.ErrArg},
		{far(-7, "x"), api.ErrArg},
		{foreign, api.ErrArg},
		{down(t, x), api.ErrDead},
	} {
		if y, e := node.Propose(c.x); !same(y, c.x) || e != c.e {
			t.Errorf("%d: %d", i, e)
		}
	}
}

// P19.3: errors of writing: with the header alone written, the vertex is the node's own, but nothing is announced.
func TestProposeFuses(t *testing.T) {
	x := fresh(t, 1, 4)
	v := api.Vertex{Author: 1, Round: 1}
	h, b := frames(t, headerOf(t, v, 4)), frames(t, ballotOf(t, 1, 1, digestOf(t, v, 4)))
	for fuse := range len(h) + len(b) + 1 {
		y, e := node.Propose(node.Arm(x, fuse))
		if fuse == len(h)+len(b) {
			if e != api.OK || y.Down || len(y.Out) != 2 {
				t.Errorf("fuse %d: %d", fuse, e)
			}
			continue
		}
		want := x
		want.P, want.Down = api.Paper{Wait: (h + b)[:fuse], Off: true}, true
		if fuse >= len(h) {
			want.Mine, want.Has, want.Set = v, true, 1
		}
		if !same(y, want) || e != api.ErrDead {
			t.Errorf("fuse %d: %+v %d", fuse, y, e)
		}
		// After the crash it proposes the same.
		z, e := node.Crash(y, 1000)
		z = must(t, z, e)
		if z.Has != (fuse >= len(h)) || len(z.Votes) != 0 {
			t.Errorf("fuse %d: %+v", fuse, z)
		}
		if z, e = node.Propose(z); e != api.OK || !same(z.Mine, v) || !same(z.Out, announced(t, 1, 4, v)) {
			t.Errorf("fuse %d: %+v %d", fuse, z, e)
		}
	}
}

// P19.3: a header that the file has no room for: the ballot, which is shorter, is not written either.
func TestProposeFull(t *testing.T) {
	x := fresh(t, 1, 4)
	x.P.Safe = strings.Repeat("\xff", 1<<20-50)
	x.Lane.Next, x.Lane.Open = 2, []api.Batch{{Origin: 1, Seq: 1, Txs: []string{strings.Repeat("x", 48)}}}
	want := x
	want.Down = true
	if y, e := node.Propose(x); e != api.ErrFull || !same(y, want) {
		t.Errorf("%d: %v %v %v", e, y.Mine, y.Votes, y.Out)
	}
}

// P19.3: of a vertex that is announced again, the batches of others are not sealed.
func TestAnnounceOthers(t *testing.T) {
	x := fresh(t, 2, 4)
	x.Has, x.Mine = true, api.Vertex{Author: 2, Round: 1, Batches: []api.Batch{{Origin: 1, Seq: 1, Txs: []string{"a"}}, {Origin: 2, Seq: 1, Txs: []string{"b"}}, {Origin: 3, Seq: 1, Txs: []string{"c"}}}}
	y, e := node.Propose(x)
	if e != api.OK || len(y.Out) != 3 || !same(y.Out, announced(t, 2, 4, x.Mine)) || y.P != x.P {
		t.Errorf("%v %d", y.Out, e)
	}
}

// P19.4: what is of no kind.
func TestHearJunk(t *testing.T) {
	x := fresh(t, 1, 4)
	for _, text := range []string{"", "junk", "ta", "s", "x", "\x00", "H", ballotOf(t, 1, 1, strings.Repeat("d", 32)), "h", "y", "c", "hello", "c\x01", "yes"} {
		if y, e := node.Hear(x, nil, text); !same(y, x) || e != api.ErrForm {
			t.Errorf("%q: %d", text, e)
		}
	}
	dead := down(t, x)
	if y, e := node.Hear(dead, nil, "junk"); !same(y, dead) || e != api.ErrDead {
		t.Error(e)
	}
}

// voted is what a node sends when it votes.
func voted(t *testing.T, id, n int, v api.Vertex) api.Send {
	t.Helper()
	d := digestOf(t, v, n)
	return api.Send{Seal: api.Seal{Id: id, Text: cert.Vote(d)}, Text: sayOf(t, v.Author, v.Round, id, d)}
}

// P19.4: a header: the node votes; again: it votes the same, and writes nothing; another one: it does not.
func TestHearHeader(t *testing.T) {
	x := fresh(t, 1, 4)
	v := over(t, 4, 2, 1)
	v.Batches = []api.Batch{{Origin: 2, Seq: 1, Txs: []string{"a"}}, {Origin: 3, Seq: 7, Txs: []string{"b"}}}
	d := digestOf(t, v, 4)
	b := sealAll(t, nil, 4, v)
	y, e := node.Hear(x, b, headerOf(t, v, 4))
	want := x
	want.P.Wait = frames(t, ballotOf(t, 2, 1, d))
	want.Votes = []api.Ballot{{Author: 2, Round: 1, Digest: d}}
	want.Out = []api.Send{voted(t, 1, 4, v)}
	if !same(y, want) || e != api.OK {
		t.Fatalf("%+v %d", y, e)
	}
	z, e := node.Hear(y, b, headerOf(t, v, 4))
	want.Out = append(want.Out, want.Out[0])
	if !same(z, want) || e != api.OK {
		t.Errorf("again: %+v %d", z, e)
	}
	w := over(t, 4, 2, 1)
	if z, e := node.Hear(y, sealAll(t, nil, 4, w), headerOf(t, w, 4)); !same(z, y) || e != api.ErrOther {
		t.Errorf("another: %+v %d", z, e)
	}
	own := over(t, 4, 1, 1)
	if z, e := node.Hear(x, sealAll(t, nil, 4, own), headerOf(t, own, 4)); e != api.OK || !same(z.Out, []api.Send{voted(t, 1, 4, own)}) {
		t.Errorf("its own: %+v %d", z, e)
	}
}

// P19.4: a header, each error, and which of several is named first.
func TestHearHeaderErrors(t *testing.T) {
	x := fresh(t, 1, 4)
	g := grid(t, 4, 3)
	v := over(t, 4, 2, 1)
	v.Batches = []api.Batch{{Origin: 2, Seq: 1, Txs: []string{"a"}}, {Origin: 3, Seq: 7, Txs: []string{"b"}}}
	b := sealAll(t, nil, 4, v)
	for i, s := range b {
		less := slices.Delete(slices.Clone(b), i, i+1)
		want := api.OK
		if s.Text[0] != 'y' {
			want = api.ErrSeal
		}
		if y, e := node.Hear(x, less, headerOf(t, v, 4)); e != want || e != api.OK && !same(y, x) {
			t.Errorf("without seal %d: %d", i, e)
		}
	}
	at2 := hearAll(t, x, g[0], g[1])
	wrongShare, noShare := g[2][1], g[2][1]
	wrongShare.Share.A = (wrongShare.Share.A + 1) % 10007
	noShare.Share = api.Elem{}
	// Its vote of round 1 is below the floor of a DAG that was dropped.
	old := at2
	old.D.Low, old.D.L = 1, old.D.L[4:]
	part := over(t, 4, 3, 2, g[0][:3]...)
	for i, c := range []struct {
		x    api.Node
		v    api.Vertex
		b    []api.Seal
		e    api.Errno
		text string
	}{
		{x: at2, v: wrongShare, b: sealAll(t, nil, 4, wrongShare), e: api.ErrSeal},
		{x: at2, v: noShare, b: sealAll(t, nil, 4, noShare), e: api.ErrSeal},
		{x: x, v: wrongShare, b: sealAll(t, nil, 4, wrongShare), e: api.ErrSeal},
		{x: at2, v: g[2][1], b: nil, e: api.ErrSeal},
		{x: x, v: g[2][1], b: sealAll(t, nil, 4, g[2][1]), e: api.ErrPart},
		{x: x, v: part, b: sealAll(t, nil, 4, part), e: api.ErrPart},
		{x: hearAll(t, x, g[0][:2]), v: part, b: sealAll(t, nil, 4, part), e: api.ErrPart},
		{x: hearAll(t, x, g[0][:2]), v: part, b: nil, e: api.ErrSeal},
		{x: old, v: g[0][1], b: sealAll(t, nil, 4, g[0][1]), e: api.ErrOld},
		{x: at2, v: g[2][1], b: nil, e: api.ErrForm, text: headerOf(t, g[2][1], 4) + "x"},
		{x: x, v: v, b: b, e: api.ErrForm, text: headerOf(t, v, 4)[:20]},
		{x: x, v: v, b: sealAll(t, nil, 7, over(t, 7, 6, 1)), e: api.ErrForm, text: headerOf(t, over(t, 7, 6, 1), 7)},
	} {
		text := c.text
		if text == "" {
			text = headerOf(t, c.v, 4)
		}
		if y, e := node.Hear(c.x, c.b, text); !same(y, c.x) || e != c.e {
			t.Errorf("%d: %d", i, e)
		}
	}
	if y, e := node.Hear(at2, sealAll(t, nil, 4, g[2][1]), headerOf(t, g[2][1], 4)); e != api.OK || len(y.Out) != len(at2.Out)+1 {
		t.Errorf("with its share: %d", e)
	}
}

// P19.4: a vote whose writing fails.
func TestHearHeaderFuse(t *testing.T) {
	x := node.Arm(fresh(t, 1, 4), 10)
	v := over(t, 4, 2, 1)
	b := sealAll(t, nil, 4, v)
	y, e := node.Hear(x, b, headerOf(t, v, 4))
	want := x
	want.P, want.Down = api.Paper{Wait: frames(t, ballotOf(t, 2, 1, digestOf(t, v, 4)))[:10], Off: true}, true
	if !same(y, want) || e != api.ErrDead {
		t.Errorf("%+v %d", y, e)
	}
	if z, e := node.Hear(y, b, headerOf(t, v, 4)); !same(z, y) || e != api.ErrDead {
		t.Error(e)
	}
}

// P19.4: votes for a vertex of the node's own, up to a quorum.
func TestHearSay(t *testing.T) {
	x, e := node.Propose(fresh(t, 1, 4))
	x, _ = synced(t, must(t, x, e))
	v, d := x.Mine, digestOf(t, x.Mine, 4)
	b := sealAll(t, nil, 4, v)
	y, e := node.Hear(x, b, sayOf(t, 1, 1, 1, d))
	if e != api.OK || !same(y, x) {
		t.Errorf("its own: %+v %d", y, e)
	}
	y, e = node.Hear(x, b, sayOf(t, 1, 1, 3, d))
	if e != api.OK || y.Set != 5 || !unchanged(x, y, "Set") {
		t.Errorf("the first: %+v %d", y, e)
	}
	if z, e := node.Hear(y, b, sayOf(t, 1, 1, 3, d)); e != api.OK || !same(z, y) {
		t.Errorf("the first again: %+v %d", z, e)
	}
	z, e := node.Hear(y, b, sayOf(t, 1, 1, 4, d))
	want := y
	proof := proofOf(t, v, 4, 13)
	want.Set, want.P.Wait = 13, frames(t, proof)
	want.D.L = []api.Entry{{Digest: d, V: v}}
	want.Out = []api.Send{{Text: proof}}
	if !same(z, want) || e != api.OK {
		t.Errorf("a quorum: %+v %d", z, e)
	}
	// A further vote certifies nothing anew.
	w, _ := node.Hear(z, b, sayOf(t, 1, 1, 2, d))
	if w.Set != 15 || !unchanged(z, w, "Set") {
		t.Errorf("all: %+v", w)
	}
	// In a greater committee it takes more.
	great, e := node.Propose(fresh(t, 1, 7))
	great = must(t, great, e)
	d = digestOf(t, great.Mine, 7)
	for voter := 2; voter <= 5; voter++ {
		great, e = node.Hear(great, sealAll(t, nil, 7, great.Mine), sayOf(t, 1, 1, voter, d))
		if e != api.OK || (len(great.D.L) == 1) != (voter == 5) {
			t.Errorf("%d of 7: %d", voter, e)
		}
	}
}

// P19.4: a vote, each error, and which of several is named first.
func TestHearSayErrors(t *testing.T) {
	none := fresh(t, 1, 4)
	x, e := node.Propose(none)
	x = must(t, x, e)
	d := digestOf(t, x.Mine, 4)
	wrong := strings.Repeat("q", 32)
	b := book.Put(sealAll(t, nil, 4, x.Mine), api.Seal{Id: 5, Text: cert.Vote(d)})
	without := slices.DeleteFunc(slices.Clone(b), func(s api.Seal) bool { return s.Id == 3 })
	header := book.Put(without, api.Seal{Id: 3, Text: cert.Header(d)})
	good := sayOf(t, 1, 1, 3, d)
	for i, c := range []struct {
		x    api.Node
		b    []api.Seal
		text string
		e    api.Errno
	}{
		{x, b, good + "x", api.ErrForm},
		{x, b, good[:10], api.ErrForm},
		{none, b, "y", api.ErrForm},
		{none, b, good, api.ErrNone},
		{x, b, sayOf(t, 2, 1, 3, d), api.ErrNone},
		{x, b, sayOf(t, 1, 2, 3, d), api.ErrNone},
		{x, b, sayOf(t, 1, 1, 3, wrong), api.ErrNone},
		{x, b, sayOf(t, 2, 1, 9, d), api.ErrNone},
		{x, b, sayOf(t, 1, 1, 5, d), api.ErrArg},
		{x, nil, sayOf(t, 1, 1, 64, d), api.ErrArg},
		{x, nil, good, api.ErrSeal},
		{x, without, good, api.ErrSeal},
		{x, header, good, api.ErrSeal},
		{down(t, none), b, good, api.ErrDead},
	} {
		if y, e := node.Hear(c.x, c.b, c.text); !same(y, c.x) || e != c.e {
			t.Errorf("%d: %d", i, e)
		}
	}
}

// P19.4: a quorum whose proof is not written: the votes are counted, and the node is down.
func TestHearSayFuse(t *testing.T) {
	x, e := node.Propose(fresh(t, 1, 4))
	x, _ = synced(t, must(t, x, e))
	d := digestOf(t, x.Mine, 4)
	b := sealAll(t, nil, 4, x.Mine)
	x, e = node.Hear(x, b, sayOf(t, 1, 1, 2, d))
	x = node.Arm(must(t, x, e), 12)
	y, e := node.Hear(x, b, sayOf(t, 1, 1, 3, d))
	want := x
	want.Set, want.Down = 7, true
	want.P.Wait, want.P.Fuse, want.P.Off = frames(t, proofOf(t, x.Mine, 4, 7))[:12], 0, true
	if !same(y, want) || e != api.ErrDead {
		t.Errorf("%+v %d", y, e)
	}
}

// P19.4: a proof is written and sent; one that is there, of another vertex, or of a round that is past is not.
func TestHearProof(t *testing.T) {
	x := fresh(t, 1, 4)
	v := over(t, 4, 2, 1)
	b := sealAll(t, nil, 4, v)
	proof := proofOf(t, v, 4, 14)
	y, e := node.Hear(x, b, proof)
	want := x
	want.P.Wait = frames(t, proof)
	want.D.L = []api.Entry{{Digest: digestOf(t, v, 4), V: v}}
	want.Out = []api.Send{{Text: proof}}
	if !same(y, want) || e != api.OK {
		t.Fatalf("%+v %d", y, e)
	}
	w := over(t, 4, 2, 1)
	w.Batches = []api.Batch{{Origin: 1, Seq: 1, Txs: []string{"a"}}}
	all := b
	for _, s := range sealAll(t, nil, 4, w) {
		all = book.Put(all, s)
	}
	low := y
	low.D = api.Dag{N: 4, Low: 1}
	for i, c := range []struct {
		x    api.Node
		b    []api.Seal
		text string
		e    api.Errno
	}{
		{y, b, proof, api.ErrThere},
		{y, b, proofOf(t, v, 4, 15), api.ErrThere},
		{y, all, proofOf(t, w, 4, 7), api.ErrOther},
		{low, b, proof, api.ErrOld},
		{x, nil, proof, api.ErrSeal},
		{x, slices.DeleteFunc(slices.Clone(b), func(s api.Seal) bool { return s.Id == 4 && s.Text[0] == 'y' }), proof, api.ErrSeal},
		{x, b, proof + "x", api.ErrForm},
		{x, b, proof[:9], api.ErrForm},
		{x, b, "c" + headerOf(t, v, 4)[1:], api.ErrForm},
		{x, b, proofOf(t, over(t, 7, 2, 1), 7, 127), api.ErrForm},
		{down(t, x), b, proof, api.ErrDead},
	} {
		if got, e := node.Hear(c.x, c.b, c.text); !same(got, c.x) || e != c.e {
			t.Errorf("%d: %d", i, e)
		}
	}
	// The seals of the author and of the origins are not asked for: the votes are enough.
	votes := slices.DeleteFunc(sealAll(t, nil, 4, w), func(s api.Seal) bool { return s.Text[0] != 'y' })
	if _, e := node.Hear(x, votes, proofOf(t, w, 4, 7)); e != api.OK {
		t.Error(e)
	}
}

// P19.4: proofs that come before their parents wait, and are admitted as soon as these are there: the first one that may be, each time.
func TestWait(t *testing.T) {
	g := grid(t, 4, 3)
	var b []api.Seal
	for _, row := range g {
		for _, v := range row {
			b = sealAll(t, b, 4, v)
		}
	}
	x := fresh(t, 1, 4)
	var wait []api.Proof
	for _, v := range []api.Vertex{g[2][0], g[1][1], g[2][3], g[1][0], g[1][2], g[1][3], g[2][1]} {
		y, e := node.Hear(x, b, proofOf(t, v, 4, 7))
		wait = append(wait, api.Proof{V: v, Set: 7})
		if e != api.ErrPart || !same(y.Wait, wait) || !unchanged(x, y, "Wait") {
			t.Fatalf("%v: %d", v, e)
		}
		// The same vertex, with other voters too, waits once.
		for _, set := range []uint64{7, 15} {
			if z, e := node.Hear(y, b, proofOf(t, v, 4, set)); e != api.ErrPart || !same(z, y) {
				t.Fatalf("%v: %d", v, e)
			}
		}
		x = y
	}
	x = hearAll(t, x, g[0][:3])
	if len(x.Wait) != 7 || len(x.D.L) != 3 {
		t.Fatalf("%d wait", len(x.Wait))
	}
	x.Out = nil
	y, e := node.Hear(x, b, proofOf(t, g[0][3], 4, 7))
	if e != api.OK || len(y.Wait) != 0 || len(y.D.L) != 11 {
		t.Fatalf("%d wait: %d", len(y.Wait), e)
	}
	// Those of round 3 may come as soon as all four of round 2 are there: then the first one that waits comes first.
	var want []api.Send
	recs := ""
	for _, v := range []api.Vertex{g[0][3], g[1][1], g[1][0], g[1][2], g[1][3], g[2][0], g[2][3], g[2][1]} {
		want = append(want, api.Send{Text: proofOf(t, v, 4, 7)})
		recs += frames(t, proofOf(t, v, 4, 7))
	}
	if !same(y.Out, want) || y.P.Wait != x.P.Wait+recs {
		t.Errorf("%v", y.Out)
	}
}

// P19.4: no more than 16 proofs wait.
func TestWaitFull(t *testing.T) {
	g := grid(t, 4, 6)
	x := fresh(t, 1, 4)
	many := 0
	for _, row := range g[1:] {
		for _, v := range row {
			y, e := node.Hear(x, sealAll(t, nil, 4, v), proofOf(t, v, 4, 7))
			many++
			if e != api.ErrPart || len(y.Wait) != min(many, 16) || !unchanged(x, y, "Wait") {
				t.Fatalf("%d: %d wait, %d", many, len(y.Wait), e)
			}
			x = y
		}
	}
	x = hearAll(t, x, g[0])
	if len(x.Wait) != 0 || len(x.D.L) != 20 {
		t.Errorf("%d wait, %d are there", len(x.Wait), len(x.D.L))
	}
}

// P19.4: a proof that waits, and that another one has made impossible, is dropped.
func TestWaitDropped(t *testing.T) {
	g := grid(t, 4, 2)
	one := over(t, 4, 1, 2, g[0][:3]...)
	two := over(t, 4, 1, 2, g[0]...)
	x := fresh(t, 1, 4)
	for _, v := range []api.Vertex{two, one} {
		y, e := node.Hear(x, sealAll(t, nil, 4, v), proofOf(t, v, 4, 7))
		if e != api.ErrPart {
			t.Fatal(e)
		}
		x = y
	}
	x = hearAll(t, x, g[0][:2])
	if len(x.Wait) != 2 || len(x.D.L) != 2 {
		t.Fatalf("%v", x.Wait)
	}
	x.Out = nil
	x = hearAll(t, x, g[0][2:3])
	if len(x.Wait) != 0 || len(x.D.L) != 4 || !same(x.D.L[3].V, one) {
		t.Errorf("%v", x.Wait)
	}
	if !same(x.Out, []api.Send{{Text: proofOf(t, g[0][2], 4, 7)}, {Text: proofOf(t, one, 4, 7)}}) {
		t.Errorf("%v", x.Out)
	}
}

// P19.4: writing that fails while those that have waited are admitted.
func TestWaitFuse(t *testing.T) {
	g := grid(t, 4, 2)
	x := fresh(t, 1, 4)
	for _, v := range g[1][:2] {
		x, _ = node.Hear(x, sealAll(t, nil, 4, v), proofOf(t, v, 4, 7))
	}
	x, _ = synced(t, hearAll(t, x, g[0][:3]))
	first, second := frames(t, proofOf(t, g[0][3], 4, 7)), frames(t, proofOf(t, g[1][0], 4, 7))
	y, e := node.Hear(node.Arm(x, len(first)+len(second)-1), sealAll(t, nil, 4, g[0][3]), proofOf(t, g[0][3], 4, 7))
	if e != api.ErrDead || !y.Down || len(y.D.L) != 4 || y.P.Wait != first+second[:len(second)-1] || !same(y.Out, []api.Send{{Text: proofOf(t, g[0][3], 4, 7)}}) {
		t.Errorf("%d: %+v", e, y)
	}
}

// P19.5: Sync.
func TestSync(t *testing.T) {
	x, e := node.Propose(fresh(t, 1, 4))
	x = must(t, x, e)
	y, out, e := node.Sync(x)
	want := x
	want.P.Safe, want.P.Wait, want.Out = x.P.Wait, "", nil
	if !same(y, want) || !same(out, x.Out) || e != api.OK {
		t.Errorf("%+v %v %d", y, out, e)
	}
	if z, out, e := node.Sync(y); !same(z, y) || len(out) != 0 || e != api.OK {
		t.Errorf("again: %v %d", out, e)
	}
	dead := down(t, x)
	if z, out, e := node.Sync(dead); !same(z, dead) || len(out) != 0 || e != api.ErrDead {
		t.Errorf("down: %v %d", out, e)
	}
	off := x
	off.P.Off = true
	want = off
	want.Down = true
	if z, out, e := node.Sync(off); !same(z, want) || len(out) != 0 || e != api.ErrDead {
		t.Errorf("off: %+v %v %d", z, out, e)
	}
}

// P19.5: Crash: what was not safe is lost, but for a beginning.
func TestCrash(t *testing.T) {
	x, e := node.Submit(fresh(t, 1, 4), "a")
	x = must(t, x, e)
	x, e = node.Seal(x)
	x = must(t, x, e)
	x, e = node.Propose(x)
	x = must(t, x, e)
	for keep := -1; keep <= len(x.P.Wait)+1; keep++ {
		y, e := node.Crash(x, keep)
		want, _ := node.Start(1, 4, tape, paper.Crash(x.P, keep))
		if e != api.OK || !same(y, want) || y.Down || len(y.Out) != 0 || y.P.Fuse != -1 {
			t.Errorf("%d: %+v %d", keep, y, e)
		}
		sealed, has := keep >= len(frames(t, "s")), keep >= len(frames(t, "s", headerOf(t, x.Mine, 4)))
		if (len(y.Lane.Open) == 1) != sealed || (len(y.Lane.Pool) == 1) == sealed || y.Has != has || (len(y.Votes) == 1) != (keep >= len(x.P.Wait)) {
			t.Errorf("%d: %+v", keep, y)
		}
	}
	for _, dead := range []api.Node{down(t, x), down(t, fresh(t, 1, 4))} {
		y, e := node.Crash(dead, 0)
		want, _ := node.Start(1, 4, tape, api.Paper{Safe: dead.P.Safe, Fuse: -1})
		if e != api.OK || !same(y, want) {
			t.Errorf("%+v %d", y, e)
		}
	}
}

// P19.5: Arm.
func TestArm(t *testing.T) {
	x := fresh(t, 1, 4)
	dead := down(t, x)
	for _, fuse := range []int{0, 7, -1, -9, math.MaxInt, math.MinInt} {
		for _, x := range []api.Node{x, dead} {
			want := x
			want.P = paper.Arm(x.P, fuse)
			if y := node.Arm(x, fuse); !same(y, want) {
				t.Errorf("%d: %+v", fuse, y)
			}
		}
	}
}

// The records' letters: what a node writes, another one starts from (P19.1, P19.2).
func TestKinds(t *testing.T) {
	x, e := node.Submit(fresh(t, 1, 4), "a")
	x = must(t, x, e)
	x, e = node.Seal(x)
	x = must(t, x, e)
	x, e = node.Propose(x)
	x = must(t, x, e)
	x = hearAll(t, x, grid(t, 4, 1)[0][1:])
	kinds := ""
	for _, rec := range paper.Records(x.P) {
		kinds += string(rune(post.Kind(rec)))
	}
	if kinds != "tshvccc" {
		t.Errorf("%q", kinds)
	}
}
