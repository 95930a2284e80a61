package world_test

import (
	"math/rand"
	"slices"
	"strconv"
	"testing"

	"selvedge/api"
	"selvedge/cert"
	"selvedge/coin"
	"selvedge/cut"
	"selvedge/dag"
	"selvedge/post"
	"selvedge/vertex"
	"selvedge/world"
)

// script is a world that chance drives, and what its seats have announced so far.
type script struct {
	t      *testing.T
	r      *rand.Rand
	w      api.World
	honest int
	raw    []string          // what was made in the name of a seat that is not honest
	told   map[string]string // by seat and place, for which digest it sealed a header or a vote
	looked int               // up to where the pool was looked through
	votes  map[[2]int]string // by author and round, the digest of a certificate
}

func newScript(t *testing.T, seed int64, n, honest int) *script {
	w, e := world.New(n, honest, "tape"+strconv.Itoa(int(seed)))
	if e != api.OK {
		t.Fatal(e)
	}
	return &script{t: t, r: rand.New(rand.NewSource(seed)), w: w, honest: honest, told: map[string]string{}, votes: map[[2]int]string{}}
}

// act does an act; its error is of no concern.
func (s *script) act(a api.Act) api.Errno {
	w, e := world.Do(s.w, a)
	s.w = w
	return e
}

// random does an act that chance picks; crashes and fuses as often as wild says.
func (s *script) random(wild int) {
	i := 1 + s.r.Intn(s.honest)
	switch k := s.r.Intn(100); {
	case k < 8:
		s.act(api.Act{Kind: api.WSubmit, I: i, Text: "tx" + strconv.Itoa(s.r.Intn(30))})
	case k < 11:
		s.act(api.Act{Kind: api.WSeal, I: i})
	case k < 21:
		s.act(api.Act{Kind: api.WPropose, I: i})
	case k < 36:
		s.act(api.Act{Kind: api.WSync, I: i})
	case k < 36+wild:
		s.act(api.Act{Kind: api.WCrash, I: i, K: s.r.Intn(300) - 20})
	case k < 37+wild && wild > 0:
		s.act(api.Act{Kind: api.WArm, I: i, K: s.r.Intn(2000) - 10})
	case k < 50 && s.honest < s.w.N:
		s.lie(s.honest + 1 + s.r.Intn(s.w.N-s.honest))
	case k < 55 && len(s.raw) > 0:
		s.act(api.Act{Kind: api.WRaw, I: i, Text: s.raw[s.r.Intn(len(s.raw))]})
	default:
		if many := len(s.w.Pool); many > 0 {
			s.act(api.Act{Kind: api.WDeliver, I: i, K: max(0, many-1-s.r.Intn(60))})
		}
	}
}

// lie seals something in the name of a seat that is not honest: a vertex over what some seat has, votes for what others have proposed, or a proof.
func (s *script) lie(id int) {
	forge := func(text string) { s.act(api.Act{Kind: api.WForge, I: id, Text: text}) }
	if s.r.Intn(3) == 0 {
		for _, text := range s.w.Pool[max(0, len(s.w.Pool)-40):] {
			if v, e := post.TakeHeader(text, s.w.N); e == api.OK && s.r.Intn(2) == 0 {
				forge(cert.Vote(digestOf(s.t, v, s.w.N)))
			}
		}
		return
	}
	d := s.w.L[s.r.Intn(s.honest)].D
	round := 1
	for _, x := range d.L {
		round = max(round, x.V.Round+s.r.Intn(2))
	}
	v := api.Vertex{Author: id, Round: round}
	quorum := s.w.N - (s.w.N-1)/3
	if round > 1 {
		before := dag.Round(d, round-1)
		if len(before) < quorum {
			return
		}
		for _, i := range s.r.Perm(len(before))[:quorum] {
			v.Parents = append(v.Parents, before[i].Digest)
		}
		slices.Sort(v.Parents)
	}
	if round%3 == 0 {
		v.Share = coin.Own(s.w.Tape, round/3, s.w.N, id)
	}
	for range s.r.Intn(3) {
		v.Batches = append(v.Batches, api.Batch{Origin: id, Seq: 1 + s.r.Intn(12), Txs: []string{"lie" + strconv.Itoa(s.r.Intn(5))}})
	}
	for _, b := range v.Batches {
		forge(originOf(s.t, b))
	}
	digest := digestOf(s.t, v, s.w.N)
	forge(cert.Header(digest))
	forge(cert.Vote(digest))
	header, e := post.Header(v, s.w.N)
	if e != api.OK {
		s.t.Fatal(e)
	}
	s.raw = append(s.raw, header)
	for i := 1; i <= s.honest; i++ {
		if s.r.Intn(2) == 0 {
			s.act(api.Act{Kind: api.WRaw, I: i, Text: header})
		}
	}
}

func digestOf(t *testing.T, v api.Vertex, n int) string {
	t.Helper()
	d, e := vertex.Digest(v, n)
	if e != api.OK {
		t.Fatalf("Digest(%v): %d", v, e)
	}
	return d
}

// checkOrder is T1: the blocks of all honest seats are prefixes of each other's, and chained.
func (s *script) checkOrder() {
	long := s.w.L[0].Blocks
	for _, x := range s.w.L {
		if len(x.Blocks) > len(long) {
			long = x.Blocks
		}
	}
	for _, x := range s.w.L {
		if !same(x.Blocks, long[:len(x.Blocks)]) {
			s.t.Fatalf("seat %d has other blocks", x.Id)
		}
		if !cut.Chained(x.Blocks, 0, "") {
			s.t.Fatalf("seat %d has blocks that are not chained", x.Id)
		}
	}
}

// checkOnce is T2: whatever the pool holds now, no honest seat announced two things for one place, and no two certificates of a place differ.
func (s *script) checkOnce() {
	n := s.w.N
	once := func(key, digest string) {
		if was, twice := s.told[key]; twice && was != digest {
			s.t.Fatalf("%s: two digests", key)
		}
		s.told[key] = digest
	}
	for _, text := range s.w.Pool[s.looked:] {
		if v, e := post.TakeHeader(text, n); e == api.OK {
			once("h"+strconv.Itoa(v.Author)+" "+strconv.Itoa(v.Round), digestOf(s.t, v, n))
		}
		if y, e := post.TakeSay(text); e == api.OK {
			once("y"+strconv.Itoa(y.Voter)+" "+strconv.Itoa(y.Author)+" "+strconv.Itoa(y.Round), y.Digest)
		}
		p, e := post.TakeProof(text, n)
		if e != api.OK || cert.Check(n, s.w.Book, p) != api.OK {
			continue
		}
		place, digest := [2]int{p.V.Author, p.V.Round}, digestOf(s.t, p.V, n)
		if was, twice := s.votes[place]; twice && was != digest {
			s.t.Fatalf("%v: two certificates", place)
		}
		s.votes[place] = digest
	}
	s.looked = len(s.w.Pool)
}

// counts tells how often each transaction is there.
func counts(l []string) map[string]int {
	many := map[string]int{}
	for _, tx := range l {
		many[tx]++
	}
	return many
}

// accepted are the transactions that honest seats have accepted.
func (s *script) accepted() []string {
	var l []string
	for _, x := range s.w.Acc {
		l = append(l, x.Tx)
	}
	return l
}

// checkCounts is T2's second part: if all seats are honest, nothing is in the blocks more often than it was accepted.
func (s *script) checkCounts() {
	if s.honest < s.w.N {
		return
	}
	taken := counts(s.accepted())
	for _, x := range s.w.L {
		for tx, many := range counts(blocksOf(x)) {
			if many > taken[tx] {
				s.t.Fatalf("%s is in the blocks of %d %d times", tx, x.Id, many)
			}
		}
	}
}

func (s *script) check() {
	s.checkOrder()
	s.checkOnce()
	s.checkCounts()
}

// P20.4, P20.5: T1 and T2, at every point of scripts of all kinds: with crashes, torn writes, and seats that lie.
func TestOneOrder(t *testing.T) {
	blocks := 0
	for seed := range int64(10) {
		n, honest := 4, 4-int(seed%2)
		if seed >= 8 {
			n, honest = 7, 5+int(seed%2)*2
		}
		s := newScript(t, seed, n, honest)
		for range 14 {
			for range 60 {
				s.random(2)
				s.checkOrder()
			}
			if s.r.Intn(3) > 0 {
				s.w = world.Calm(s.w, 1+s.r.Intn(3))
			}
			s.check()
		}
		blocks += len(s.w.L[0].Blocks)
	}
	if blocks < 20 {
		t.Errorf("%d blocks", blocks)
	}
}

// P20.4: a crash loses nothing that was announced: what a sync let go, the seat still stands by.
func TestCrashLosesNothing(t *testing.T) {
	s := newScript(t, 77, 4, 4)
	for range 40 {
		for range 10 {
			s.random(0)
		}
		s.w = world.Calm(s.w, 1)
		i := 1 + s.r.Intn(4)
		s.act(api.Act{Kind: api.WSync, I: i})
		x := s.w.L[i-1]
		s.act(api.Act{Kind: api.WCrash, I: i})
		y := s.w.L[i-1]
		if !same(x.Blocks, y.Blocks) || !same(x.Votes, y.Votes) || !same(x.Mine, y.Mine) || !same(x.D, y.D) || !same(x.Lane, y.Lane) || x.Last != y.Last {
			t.Fatalf("%+v, was %+v", y, x)
		}
		s.check()
	}
}

// led tells how many waves honest seats lead that begin at least 4 rounds after a round, and end at most 50 rounds after it.
func (s *script) led(top int) int {
	many := 0
	for wave := 1; 3*wave <= top+50; wave++ {
		if 3*wave-2 >= top+4 && coin.Leader(coin.Deal(s.w.Tape, wave, s.w.N)[0], s.w.N) <= s.honest {
			many++
		}
	}
	return many
}

// restart takes all fuses away, and lets all seats begin anew with what was safe.
func (s *script) restart() int {
	top := 0
	for i := 1; i <= s.honest; i++ {
		s.act(api.Act{Kind: api.WArm, I: i, K: -1})
		if e := s.act(api.Act{Kind: api.WCrash, I: i}); e != api.OK {
			s.t.Fatal(e)
		}
		x := s.w.L[i-1]
		top = max(top, x.Mine.Round)
		for _, y := range x.D.L {
			top = max(top, y.V.Round)
		}
	}
	return top
}

// checkAll is T3: all that was accepted is in the blocks of each honest seat.
func (s *script) checkAll() {
	taken := counts(s.accepted())
	for _, x := range s.w.L {
		there := counts(blocksOf(x))
		for tx, many := range taken {
			if there[tx] < many {
				s.t.Fatalf("%s was accepted %d times, and is in the blocks of %d %d times", tx, many, x.Id, there[tx])
			}
		}
	}
}

// P20.6: T3: after scripts of all kinds, once nothing is lost any more, what was accepted is in the blocks of all.
func TestLiveness(t *testing.T) {
	asked := 0
	for seed := range int64(12) {
		s := newScript(t, 100+seed, 4, 4-int(seed%2))
		for range 6 {
			for range 80 {
				s.random(3)
			}
			if s.r.Intn(2) == 0 {
				s.w = world.Calm(s.w, 1+s.r.Intn(2))
			}
		}
		s.check()
		if top := s.restart(); s.led(top) < 5 {
			continue
		}
		asked++
		s.w = world.Calm(s.w, 60)
		s.check()
		s.checkAll()
	}
	if asked < 8 {
		t.Errorf("only %d scripts had leaders", asked)
	}
}

// T3: a seat that says nothing, and seats that were long away, hold nobody up.
func TestLateSeats(t *testing.T) {
	s := newScript(t, 5, 4, 4)
	for i := 1; i <= 4; i++ {
		for k := range 6 {
			s.act(api.Act{Kind: api.WSubmit, I: i, Text: "tx" + strconv.Itoa(10*i+k)})
		}
	}
	// The seat 4 has no power for a long time.
	s.act(api.Act{Kind: api.WArm, I: 4, K: 0})
	s.w = world.Calm(s.w, 20)
	if !s.w.L[3].Down || len(s.w.L[3].Blocks) > 0 || len(s.w.L[0].Blocks) == 0 {
		t.Fatalf("%d and %d blocks", len(s.w.L[3].Blocks), len(s.w.L[0].Blocks))
	}
	s.check()
	top := s.restart()
	s.w = world.Calm(s.w, 60)
	s.check()
	if s.led(top) < 5 {
		t.Fatal("no leaders")
	}
	s.checkAll()
	if !same(s.w.L[3].Blocks, s.w.L[0].Blocks) {
		t.Error("the seat 4 has other blocks")
	}
}

// The whole takes more seats, too: all have the same blocks, with all transactions, each once.
func TestGreaterCommittees(t *testing.T) {
	for _, n := range []int{7, 10} {
		s := newScript(t, int64(n), n, n)
		for i := 1; i <= n; i++ {
			s.act(api.Act{Kind: api.WSubmit, I: i, Text: "tx" + strconv.Itoa(i)})
		}
		s.w = world.Calm(s.w, 15)
		s.check()
		s.checkAll()
		for _, x := range s.w.L {
			if !same(x.Blocks, s.w.L[0].Blocks) || len(blocksOf(x)) != n {
				t.Errorf("%d: %v", n, x.Blocks)
			}
		}
	}
}

// R4: the same script leads to the same world.
func TestSameScript(t *testing.T) {
	run := func() api.World {
		s := newScript(t, 9, 4, 3)
		for range 300 {
			s.random(2)
		}
		return world.Calm(s.w, 2)
	}
	if !same(run(), run()) {
		t.Error("another world")
	}
}

// R3, R4: worlds that follow from one do not disturb each other, and the one stays as it was.
func TestTwoFromOne(t *testing.T) {
	s := newScript(t, 4, 4, 3)
	for range 200 {
		s.random(1)
	}
	w := world.Calm(s.w, 2)
	before := plain(w).(api.World)
	var ends []api.World
	for range 2 {
		s := newScript(t, 4, 4, 3)
		s.w = w
		for range 100 {
			s.random(1)
		}
		ends = append(ends, world.Calm(s.w, 2))
		other := newScript(t, 5, 4, 3)
		other.w = w
		for range 100 {
			other.random(1)
		}
	}
	if !same(w, before) || !same(ends[0], ends[1]) {
		t.Error("changed")
	}
}
