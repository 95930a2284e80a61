package post_test

import (
	"math"
	"math/rand"
	"strings"
	"testing"

	"selvedge/api"
	"selvedge/cert"
	"selvedge/digits"
	"selvedge/post"
	"selvedge/vertex"
)

var digest = strings.Repeat("\x00", 31) + "\xff"

// sample is a valid vertex of a committee of 4.
func sample() api.Vertex {
	return api.Vertex{Author: 2, Round: 1, Batches: []api.Batch{{Origin: 1, Seq: 2, Txs: []string{"ab"}}}}
}

func sampleProof() api.Proof { return api.Proof{V: sample(), Set: 7} }

// says are valid, at the edges of what may be.
func says() []api.Say {
	return []api.Say{
		{Author: 1, Round: 2, Voter: 3, Digest: digest},
		{Author: 64, Round: 1 << 20, Voter: 64, Digest: strings.Repeat("\x09", 32)},
		{Author: 1, Round: 1, Voter: 1, Digest: strings.Repeat("y", 32)},
		{Author: 1, Round: 256, Voter: 64, Digest: digest},
	}
}

// wrongSays are not valid, each by one part alone.
func wrongSays() []api.Say {
	var l []api.Say
	for _, id := range []int{0, -1, 65, 256, math.MaxInt, math.MinInt} {
		l = append(l, api.Say{Author: id, Round: 1, Voter: 1, Digest: digest}, api.Say{Author: 1, Round: 1, Voter: id, Digest: digest})
	}
	for _, round := range []int{0, -1, 1<<20 + 1, math.MaxInt, math.MinInt} {
		l = append(l, api.Say{Author: 1, Round: round, Voter: 1, Digest: digest})
	}
	for _, d := range []string{"", "x", digest[1:], digest + "x", digest + digest} {
		l = append(l, api.Say{Author: 1, Round: 1, Voter: 1, Digest: d})
	}
	return append(l, api.Say{})
}

// ballotOf is a say without its voter.
func ballotOf(s api.Say) api.Ballot {
	return api.Ballot{Author: s.Author, Round: s.Round, Digest: s.Digest}
}

// P18.1: Header and Proof.
func TestHeaderProof(t *testing.T) {
	v, _ := vertex.Bytes(sample(), 4)
	if s, e := post.Header(sample(), 4); s != "h"+v || e != api.OK {
		t.Errorf("%q %d", s, e)
	}
	p, _ := cert.Bytes(sampleProof(), 4)
	if s, e := post.Proof(sampleProof(), 4); s != "c"+p || e != api.OK {
		t.Errorf("%q %d", s, e)
	}
	for i, x := range []struct {
		v      api.Vertex
		n      int
		set    uint64
		he, ce api.Errno
	}{
		{api.Vertex{}, 4, 7, api.ErrArg, api.ErrArg},
		{sample(), 5, 7, api.ErrArg, api.ErrArg},
		{sample(), math.MinInt, 23, api.ErrArg, api.ErrArg},
		{sample(), 4, 23, api.OK, api.ErrBig},
		{sample(), 4, 3, api.OK, api.ErrMore},
		{api.Vertex{Author: 5, Round: 1}, 4, 3, api.ErrArg, api.ErrArg},
	} {
		if s, e := post.Header(x.v, x.n); e != x.he || (s == "") != (e != api.OK) {
			t.Errorf("%d: %q %d", i, s, e)
		}
		if s, e := post.Proof(api.Proof{V: x.v, Set: x.set}, x.n); s != "" || e != x.ce {
			t.Errorf("%d: %q %d", i, s, e)
		}
	}
}

// P18.1: Say and Ballot.
func TestSayBallot(t *testing.T) {
	zeros := strings.Repeat("\x00", 32)
	if s, e := post.Say(api.Say{Author: 1, Round: 2, Voter: 3, Digest: zeros}); s != "y\x01\x01\x01\x02\x01\x03"+zeros || e != api.OK {
		t.Errorf("%q %d", s, e)
	}
	if s, e := post.Ballot(api.Ballot{Author: 1, Round: 2, Digest: zeros}); s != "v\x01\x01\x01\x02"+zeros || e != api.OK {
		t.Errorf("%q %d", s, e)
	}
	for _, x := range says() {
		a, r, v := digits.Num(uint64(x.Author)), digits.Num(uint64(x.Round)), digits.Num(uint64(x.Voter))
		if s, e := post.Say(x); s != "y"+a+r+v+x.Digest || e != api.OK {
			t.Errorf("%v: %q %d", x, s, e)
		}
		if s, e := post.Ballot(ballotOf(x)); s != "v"+a+r+x.Digest || e != api.OK {
			t.Errorf("%v: %q %d", x, s, e)
		}
	}
	for _, x := range wrongSays() {
		if s, e := post.Say(x); s != "" || e != api.ErrArg {
			t.Errorf("%v: %q %d", x, s, e)
		}
		e := api.ErrArg
		if x.Author == 1 && x.Round == 1 && x.Digest == digest {
			e = api.OK
		}
		if s, got := post.Ballot(ballotOf(x)); got != e || (s == "") != (e != api.OK) {
			t.Errorf("%v: %q %d", x, s, got)
		}
	}
}

// P18.1: Tx and Kind.
func TestTxKind(t *testing.T) {
	for _, tx := range []string{"", "ab", "t", "\xff\x00"} {
		if s := post.Tx(tx); s != "t"+tx {
			t.Errorf("%q", s)
		}
	}
	for _, x := range []struct {
		s    string
		kind byte
	}{{"", 0}, {"\x00", 0}, {"h", 'h'}, {"cab", 'c'}, {"\xff\xfe", 0xff}, {"é", 0xc3}} {
		if k := post.Kind(x.s); k != x.kind {
			t.Errorf("%q: %d", x.s, k)
		}
	}
}

// texts are encodings of all kinds.
func texts(t *testing.T) []string {
	h, e1 := post.Header(sample(), 4)
	c, e2 := post.Proof(sampleProof(), 4)
	if e1 != api.OK || e2 != api.OK {
		t.Fatal(e1, e2)
	}
	l := []string{h, c, post.Tx(""), post.Tx("ab"), post.Tx(h), post.Tx(c)}
	for _, x := range says() {
		y, e1 := post.Say(x)
		v, e2 := post.Ballot(ballotOf(x))
		if e1 != api.OK || e2 != api.OK {
			t.Fatal(e1, e2)
		}
		l = append(l, y, v)
	}
	return l
}

// check takes a text as each kind: what is taken has the text as its encoding, and what is not leads to ErrForm and zero values.
func check(t *testing.T, s string) int {
	taken := 0
	judge := func(back string, zero bool, e api.Errno) {
		if e == api.OK && back == s {
			taken++
		} else if e != api.ErrForm || !zero {
			t.Fatalf("%q: %q %d", s, back, e)
		}
	}
	v, e := post.TakeHeader(s, 4)
	back, _ := post.Header(v, 4)
	judge(back, vertex.Same(v, api.Vertex{}), e)
	p, e := post.TakeProof(s, 4)
	back, _ = post.Proof(p, 4)
	judge(back, cert.Same(p, api.Proof{}), e)
	y, e := post.TakeSay(s)
	back, _ = post.Say(y)
	judge(back, y == api.Say{}, e)
	b, e := post.TakeBallot(s)
	back, _ = post.Ballot(b)
	judge(back, b == api.Ballot{}, e)
	tx, e := post.TakeTx(s)
	judge(post.Tx(tx), tx == "", e)
	return taken
}

// P18.2, P18.3: each function takes what its own kind makes.
func TestTake(t *testing.T) {
	l := texts(t)
	if v, e := post.TakeHeader(l[0], 4); !vertex.Same(v, sample()) || e != api.OK {
		t.Errorf("%v %d", v, e)
	}
	if p, e := post.TakeProof(l[1], 4); !cert.Same(p, sampleProof()) || e != api.OK {
		t.Errorf("%v %d", p, e)
	}
	for _, tx := range []string{"", "ab", l[0], l[1]} {
		if got, e := post.TakeTx("t" + tx); got != tx || e != api.OK {
			t.Errorf("%q %d", got, e)
		}
	}
	for i, x := range says() {
		if y, e := post.TakeSay(l[6+2*i]); y != x || e != api.OK {
			t.Errorf("%v %d", y, e)
		}
		if b, e := post.TakeBallot(l[7+2*i]); b != ballotOf(x) || e != api.OK {
			t.Errorf("%v %d", b, e)
		}
	}
	for _, n := range []int{7, 64, 5, 0, -1, math.MaxInt} {
		if v, e := post.TakeHeader(l[0], n); (e == api.OK) != (n == 7 || n == 64) || e != api.OK && (e != api.ErrForm || !vertex.Same(v, api.Vertex{})) {
			t.Errorf("in %d: %v %d", n, v, e)
		}
		if p, e := post.TakeProof(l[1], n); e != api.ErrForm || !cert.Same(p, api.Proof{}) {
			t.Errorf("in %d: %v %d", n, p, e)
		}
	}
}

// P18.2, P18.3: no function takes another kind's encoding, nor more, nor less.
func TestTakeOthers(t *testing.T) {
	for _, s := range texts(t) {
		if check(t, s) != 1 {
			t.Errorf("%q", s)
		}
		for i := range len(s) {
			if many := check(t, s[:i]); many > 0 && (s[0] != 't' || i == 0) {
				t.Errorf("%q: %d", s[:i], many)
			}
		}
		for _, more := range []string{"\x00", "x", s} {
			if many := check(t, s+more); many > 0 && s[0] != 't' {
				t.Errorf("%q: %d", s+more, many)
			}
		}
		for _, letter := range []string{"h", "c", "y", "v", "t", "s", "\x00", "H"} {
			if many := check(t, letter+s[1:]); many > 0 && letter != s[:1] && letter != "t" {
				t.Errorf("%q: %d", letter+s[1:], many)
			}
		}
	}
	for _, s := range []string{"", "s", "x", "hello", "c\x00", "h\x09", "y", "v", "h", "c"} {
		if check(t, s) != 0 {
			t.Errorf("%q", s)
		}
	}
}

// P18.2: what would be the encoding of a vote message or of a ballot that is not valid.
func TestTakeWrong(t *testing.T) {
	for _, x := range wrongSays() {
		a, r, v := digits.Num(uint64(x.Author)), digits.Num(uint64(x.Round)), digits.Num(uint64(x.Voter))
		if y, e := post.TakeSay("y" + a + r + v + x.Digest); y != (api.Say{}) || e != api.ErrForm {
			t.Errorf("%v: %v %d", x, y, e)
		}
		if x.Voter == 1 {
			if b, e := post.TakeBallot("v" + a + r + x.Digest); b != (api.Ballot{}) || e != api.ErrForm {
				t.Errorf("%v: %v %d", x, b, e)
			}
		}
	}
	for _, s := range []string{"\x02\x00\x01\x01\x02\x01\x03", "\x01\x01\x02\x00\x02\x01\x03", "\x01\x01\x01\x02\x02\x00\x03", "\x09\x01\x01\x02\x01\x03", "\x01\x01"} {
		if y, e := post.TakeSay("y" + s + digest); y != (api.Say{}) || e != api.ErrForm {
			t.Errorf("%q: %v %d", s, y, e)
		}
	}
}

// P18.2, P18.3, R1: any bytes.
func TestTakeAny(t *testing.T) {
	r := rand.New(rand.NewSource(1))
	l := texts(t)
	for range 20000 {
		b := []byte(l[r.Intn(len(l))])
		for range 1 + r.Intn(3) {
			b[r.Intn(len(b))] = "hcyvts\x00\x01\x02\x04\x20\xff"[r.Intn(12)]
		}
		if many := check(t, string(b)); many > 1 {
			t.Fatalf("%q: %d", b, many)
		}
	}
}
