package vertex_test

import (
	"crypto/sha256"
	"math"
	"math/rand"
	"slices"
	"strings"
	"testing"

	"selvedge/api"
	"selvedge/digits"
	"selvedge/vertex"
)

// parents are so many texts of 32 bytes, ascending.
func parents(many int) []string {
	var l []string
	for i := range many {
		l = append(l, string(rune('a'+i/26))+string(rune('a'+i%26))+strings.Repeat("\xee", 30))
	}
	return l
}

func some(origin, seq int, txs ...string) api.Batch {
	return api.Batch{Origin: origin, Seq: seq, Txs: txs}
}

// sized is a vertex with the committee that it is valid in, or not.
type sized struct {
	n int
	v api.Vertex
}

// rights are valid, at the edges of what may be; no two of one committee are equal.
func rights() []sized {
	b := some(1, 1, "a")
	long := some(4, 1<<30, strings.Repeat("x", 48), strings.Repeat("y", 48), strings.Repeat("z", 48), "q")
	return []sized{
		{4, api.Vertex{Author: 1, Round: 1}},
		{4, api.Vertex{Author: 4, Round: 1}},
		{64, api.Vertex{Author: 64, Round: 1}},
		{4, api.Vertex{Author: 1, Round: 1, Batches: []api.Batch{b}}},
		{4, api.Vertex{Author: 1, Round: 1, Batches: []api.Batch{b, b}}},
		{4, api.Vertex{Author: 1, Round: 1, Batches: []api.Batch{b, long}}},
		{4, api.Vertex{Author: 1, Round: 1, Batches: []api.Batch{long, b}}},
		{4, api.Vertex{Author: 1, Round: 1, Batches: []api.Batch{long, b, long, long}}},
		{64, api.Vertex{Author: 1, Round: 1, Batches: []api.Batch{some(64, 1, "a")}}},
		{4, api.Vertex{Author: 1, Round: 2, Parents: parents(3)}},
		{4, api.Vertex{Author: 1, Round: 2, Parents: parents(4)}},
		{4, api.Vertex{Author: 1, Round: 2, Parents: parents(4)[1:]}},
		{4, api.Vertex{Author: 1, Round: 2, Parents: []string{strings.Repeat("\x00", 32), strings.Repeat("\x7f", 32), strings.Repeat("\xff", 32)}}},
		{7, api.Vertex{Author: 7, Round: 2, Parents: parents(5)}},
		{64, api.Vertex{Author: 1, Round: 2, Parents: parents(43)}},
		{64, api.Vertex{Author: 1, Round: 2, Parents: parents(64)}},
		{4, api.Vertex{Author: 1, Round: 3, Parents: parents(3)}},
		{4, api.Vertex{Author: 1, Round: 3, Parents: parents(3), Share: api.Elem{A: 10006, B: 10006}}},
		{4, api.Vertex{Author: 1, Round: 3, Parents: parents(3), Share: api.Elem{A: 1}}},
		{4, api.Vertex{Author: 1, Round: 3, Parents: parents(3), Share: api.Elem{B: 1}}},
		{4, api.Vertex{Author: 1, Round: 1 << 20, Parents: parents(3)}},
		{4, api.Vertex{Author: 2, Round: 1<<20 - 1, Parents: parents(3), Batches: []api.Batch{b, long}, Share: api.Elem{A: 256, B: 255}}},
	}
}

// wrongs are not valid, each by one part alone.
func wrongs() []sized {
	b := some(1, 1, "a")
	ps := parents(5)
	var l []sized
	for _, n := range []int{0, 1, 3, 5, 6, 67, -4, math.MaxInt, math.MinInt} {
		l = append(l, sized{n, api.Vertex{Author: 1, Round: 1}})
	}
	for _, author := range []int{0, -1, 5, 64, math.MaxInt, math.MinInt} {
		l = append(l, sized{4, api.Vertex{Author: author, Round: 1}})
	}
	for _, round := range []int{0, -1, -3, 1<<20 + 1, 1<<20 + 2, math.MaxInt, math.MinInt} {
		l = append(l, sized{4, api.Vertex{Author: 1, Round: round}}, sized{4, api.Vertex{Author: 1, Round: round, Parents: ps[:3]}})
	}
	for _, batches := range [][]api.Batch{{{}}, {b, b, b, b, b}, {some(5, 1, "a")}, {b, some(0, 1, "a")}, {b, some(1, 0, "a")}, {some(1, 1), b}, {b, b, b, some(1, 1, "")}} {
		l = append(l, sized{4, api.Vertex{Author: 1, Round: 1, Batches: batches}})
	}
	l = append(l, sized{4, api.Vertex{Author: 1, Round: 1, Parents: ps[:3]}}, sized{4, api.Vertex{Author: 1, Round: 1, Parents: ps[:1]}})
	for _, p := range [][]string{nil, ps[:1], ps[:2], ps, {ps[0], ps[2], ps[1]}, {ps[0], ps[0], ps[1]}, {ps[0], ps[1], ps[1]}, {ps[0], ps[1], ps[2][:31]}, {ps[0], ps[1], ps[2] + "x"}, {"", ps[0], ps[1]}, {ps[1], ps[0], ps[2], ps[3]}} {
		l = append(l, sized{4, api.Vertex{Author: 1, Round: 2, Parents: p}})
	}
	for _, s := range []api.Elem{{A: -1}, {B: -1}, {A: 10007}, {B: 10007}, {A: math.MaxInt}, {B: math.MinInt}} {
		l = append(l, sized{4, api.Vertex{Author: 1, Round: 3, Parents: ps[:3], Share: s}})
	}
	for _, s := range []api.Elem{{A: 1}, {B: 1}, {A: 10006, B: 10006}} {
		for _, round := range []int{2, 4, 5} {
			l = append(l, sized{4, api.Vertex{Author: 1, Round: round, Parents: ps[:3], Share: s}})
		}
		l = append(l, sized{4, api.Vertex{Author: 1, Round: 1, Share: s}})
	}
	return append(l, sized{7, api.Vertex{Author: 1, Round: 2, Parents: parents(4)}}, sized{64, api.Vertex{Author: 1, Round: 2, Parents: parents(42)}}, sized{64, api.Vertex{Author: 1, Round: 2, Parents: parents(65)}}, sized{4, api.Vertex{}})
}

// P8.1: May.
func TestMay(t *testing.T) {
	for i, x := range rights() {
		if !vertex.May(x.v, x.n) {
			t.Errorf("%d: %v in %d", i, x.v, x.n)
		}
	}
	for i, x := range wrongs() {
		if vertex.May(x.v, x.n) {
			t.Errorf("%d: %v in %d", i, x.v, x.n)
		}
	}
}

// plainSame compares the fields one by one.
func plainSame(a, b api.Vertex) bool {
	if len(a.Batches) != len(b.Batches) || !slices.Equal(a.Parents, b.Parents) {
		return false
	}
	for i := range a.Batches {
		x, y := a.Batches[i], b.Batches[i]
		if x.Origin != y.Origin || x.Seq != y.Seq || !slices.Equal(x.Txs, y.Txs) {
			return false
		}
	}
	return a.Author == b.Author && a.Round == b.Round && a.Share.A == b.Share.A && a.Share.B == b.Share.B
}

// P8.1: Same.
func TestSame(t *testing.T) {
	all := append(rights(), wrongs()...)
	for i, a := range all {
		for j, b := range all {
			if vertex.Same(a.v, b.v) != plainSame(a.v, b.v) || i == j && !vertex.Same(a.v, b.v) {
				t.Errorf("%v and %v", a.v, b.v)
			}
		}
	}
	a := api.Vertex{Batches: []api.Batch{{}}, Parents: []string{}}
	if !vertex.Same(a, api.Vertex{Batches: []api.Batch{{Txs: []string{}}}}) || vertex.Same(a, api.Vertex{}) {
		t.Error("lists without elements")
	}
	for _, b := range []api.Vertex{{Batches: []api.Batch{{Seq: 1}}}, {Batches: []api.Batch{{Txs: []string{""}}}}, {Batches: []api.Batch{{}, {}}}, {Batches: a.Batches, Parents: []string{""}}, {Batches: a.Batches, Share: api.Elem{B: 1}}} {
		if vertex.Same(a, b) || vertex.Same(b, a) {
			t.Errorf("%v", b)
		}
	}
}

// P8.1: Wave and Third.
func TestWaves(t *testing.T) {
	for round := -20; round < 200; round++ {
		wave := 0
		for wave*3 < round {
			wave++
		}
		if vertex.Wave(round) != wave || vertex.Third(round) != (round > 0 && wave*3 == round) {
			t.Errorf("%d: %d %v", round, vertex.Wave(round), vertex.Third(round))
		}
	}
	const top = 3074457345618258603 // (2^63 + 1) / 3
	for _, x := range []struct {
		round, wave int
		third       bool
	}{
		{math.MaxInt, top, false},
		{math.MaxInt - 1, top - 1, true},
		{math.MaxInt - 2, top - 1, false},
		{math.MaxInt - 3, top - 1, false},
		{math.MaxInt - 4, top - 2, true},
		{math.MinInt, 0, false},
		{math.MinInt + 2, 0, false},
		{0, 0, false},
		{-3, 0, false},
		{1 << 20, 349526, false},
		{1<<20 - 1, 349525, true},
	} {
		if vertex.Wave(x.round) != x.wave || vertex.Third(x.round) != x.third {
			t.Errorf("%d: %d %v", x.round, vertex.Wave(x.round), vertex.Third(x.round))
		}
	}
}

// plainBytes go by the words of the promise.
func plainBytes(v api.Vertex) string {
	var l []string
	for _, b := range v.Batches {
		l = append(l, digits.Num(uint64(b.Origin))+digits.Num(uint64(b.Seq))+digits.Row(b.Txs))
	}
	return digits.Num(uint64(v.Author)) + digits.Num(uint64(v.Round)) + digits.Row(l) + digits.Row(v.Parents) + digits.Num(uint64(v.Share.A)) + digits.Num(uint64(v.Share.B))
}

// P8.2: Bytes.
func TestBytes(t *testing.T) {
	if s, e := vertex.Bytes(api.Vertex{Author: 1, Round: 1}, 4); s != "\x01\x01\x01\x01\x00\x00\x00\x00" || e != api.OK {
		t.Errorf("%x %d", s, e)
	}
	v := api.Vertex{Author: 2, Round: 3, Batches: []api.Batch{some(1, 2, "ab")}, Parents: parents(3), Share: api.Elem{A: 5, B: 256}}
	want := "\x01\x02\x01\x03\x01\x01\x01\x0a\x01\x01\x01\x02\x01\x01\x01\x02ab\x01\x03\x01\x20" + parents(3)[0] + "\x01\x20" + parents(3)[1] + "\x01\x20" + parents(3)[2] + "\x01\x05\x02\x01\x00"
	if s, e := vertex.Bytes(v, 4); s != want || e != api.OK {
		t.Errorf("%x %d", s, e)
	}
	for _, x := range rights() {
		if s, e := vertex.Bytes(x.v, x.n); s != plainBytes(x.v) || e != api.OK {
			t.Errorf("%v: %x %d", x.v, s, e)
		}
	}
	for _, x := range wrongs() {
		if s, e := vertex.Bytes(x.v, x.n); s != "" || e != api.ErrArg {
			t.Errorf("%v: %x %d", x.v, s, e)
		}
	}
}

// P8.2: Digest.
func TestDigest(t *testing.T) {
	for _, x := range rights() {
		want := sha256.Sum256([]byte("v" + plainBytes(x.v)))
		if d, e := vertex.Digest(x.v, x.n); d != string(want[:]) || e != api.OK {
			t.Errorf("%v: %x %d", x.v, d, e)
		}
	}
	for _, x := range wrongs() {
		if d, e := vertex.Digest(x.v, x.n); d != "" || e != api.ErrArg {
			t.Errorf("%v: %x %d", x.v, d, e)
		}
	}
}

// isZero: is a vertex the zero value?
func isZero(v api.Vertex) bool { return plainSame(v, api.Vertex{}) }

// P8.2, P8.3: Take of what Bytes makes, of more, and of each beginning.
func TestTake(t *testing.T) {
	for _, x := range rights() {
		s := plainBytes(x.v)
		if v, e := vertex.Take(s, x.n); !plainSame(v, x.v) || e != api.OK {
			t.Errorf("%x: %v %d", s, v, e)
		}
		for _, after := range []string{"\x00", "z", s} {
			if v, e := vertex.Take(s+after, x.n); !isZero(v) || e != api.ErrForm {
				t.Errorf("%x and more: %v %d", s, v, e)
			}
		}
		for i := range len(s) {
			if v, e := vertex.Take(s[:i], x.n); !isZero(v) || e != api.ErrForm {
				t.Errorf("%d bytes of %x: %v %d", i, s, v, e)
			}
		}
	}
}

// P8.2: Take of what would be the encoding of a vertex that is not valid, or not valid in this committee.
func TestTakeWrong(t *testing.T) {
	for _, x := range wrongs() {
		if v, e := vertex.Take(plainBytes(x.v), x.n); !isZero(v) || e != api.ErrForm {
			t.Errorf("%v in %d: %v %d", x.v, x.n, v, e)
		}
	}
	for _, x := range rights() {
		for _, n := range []int{4, 7, 10, 64, 5, 0, -1, 67, math.MaxInt, math.MinInt} {
			want := api.ErrForm
			if vertex.May(x.v, n) {
				want = api.OK
			}
			if v, e := vertex.Take(plainBytes(x.v), n); e != want || e != api.OK && !isZero(v) {
				t.Errorf("%v in %d: %v %d", x.v, n, v, e)
			}
		}
	}
	for _, s := range []string{
		"", "\x09",
		"\x02\x00\x01\x01\x01\x00\x00\x00\x00",
		"\x01\x01\x02\x00\x01\x00\x00\x00\x00",
		"\x01\x01\x01\x01\x01\x00\x00\x00\x00",
		"\x01\x01\x01\x01\x00\x01\x00\x00\x00",
		"\x01\x01\x01\x01\x00\x00\x01\x00\x00",
		"\x01\x01\x01\x01\x00\x00\x00\x01\x00",
		"\x01\x01\x01\x01\x01\x01\x01\x01x\x00\x00\x00",
		"\x01\x01\x01\x01\x01\x01\x00\x00\x00\x00",
		"\x08\x80\x00\x00\x00\x00\x00\x00\x01\x01\x01\x00\x00\x00\x00",
		"\x01\x01\x01\x01\x08\xff\xff\xff\xff\xff\xff\xff\xff\x00\x00\x00",
		"\x01\x01\x01\x01\x00\x08\xff\xff\xff\xff\xff\xff\xff\xff\x00\x00",
		"\x01\x01\x01\x01\x00\x00\x08\xff\xff\xff\xff\xff\xff\xff\xff\x00",
	} {
		if v, e := vertex.Take(s, 4); !isZero(v) || e != api.ErrForm {
			t.Errorf("%x: %v %d", s, v, e)
		}
	}
}

// P8.2, P8.3, R1: what is taken from any bytes is a valid vertex with that encoding.
func TestTakeAny(t *testing.T) {
	r := rand.New(rand.NewSource(1))
	l := rights()
	taken := 0
	for range 20000 {
		x := l[r.Intn(len(l))]
		b := []byte(plainBytes(x.v))
		for range 1 + r.Intn(2) {
			b[r.Intn(len(b))] = byte(r.Intn(6))
		}
		v, e := vertex.Take(string(b), x.n)
		if e == api.OK {
			taken++
			if !vertex.May(v, x.n) || plainBytes(v) != string(b) {
				t.Fatalf("%x: %v", b, v)
			}
		} else if e != api.ErrForm || !isZero(v) {
			t.Fatalf("%x: %v %d", b, v, e)
		}
	}
	if taken == 0 {
		t.Error("none was taken")
	}
}

// P8.3: two valid vertices have the same encoding, and the same digest, if and only if they are equal.
func TestEncodingsDiffer(t *testing.T) {
	for _, a := range rights() {
		for _, b := range rights() {
			s, _ := vertex.Bytes(a.v, a.n)
			u, _ := vertex.Bytes(b.v, b.n)
			d, _ := vertex.Digest(a.v, a.n)
			c, _ := vertex.Digest(b.v, b.n)
			if (s == u) != plainSame(a.v, b.v) || (d == c) != plainSame(a.v, b.v) {
				t.Errorf("%v and %v", a.v, b.v)
			}
		}
	}
}

// R3: arguments stay as they are; a vertex that was taken is changed without any effect on later calls.
func TestValues(t *testing.T) {
	fresh := func() api.Vertex {
		return api.Vertex{Author: 2, Round: 2, Batches: []api.Batch{some(2, 1, "b", "a"), some(1, 1, "c")}, Parents: parents(4)}
	}
	v := fresh()
	s, _ := vertex.Bytes(v, 4)
	vertex.Digest(v, 4)
	vertex.May(v, 4)
	if !plainSame(v, fresh()) {
		t.Errorf("%v", v)
	}
	got, _ := vertex.Take(s, 4)
	got.Parents[0], got.Batches[0] = "changed", some(9, 9)
	if again, _ := vertex.Take(s, 4); !plainSame(again, v) {
		t.Errorf("%v", again)
	}
}
