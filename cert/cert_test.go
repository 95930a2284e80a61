package cert_test

import (
	"math"
	"math/bits"
	"math/rand"
	"slices"
	"strings"
	"testing"

	"selvedge/api"
	"selvedge/batch"
	"selvedge/book"
	"selvedge/cert"
	"selvedge/digits"
	"selvedge/vertex"
)

func seal(id int, text string) api.Seal { return api.Seal{Id: id, Text: text} }

func digestOf(t *testing.T, v api.Vertex, n int) string {
	d, e := vertex.Digest(v, n)
	if e != api.OK {
		t.Fatalf("Digest(%v): %d", v, e)
	}
	return d
}

func batchDigest(t *testing.T, b api.Batch) string {
	d, e := batch.Digest(b)
	if e != api.OK {
		t.Fatalf("Digest(%v): %d", b, e)
	}
	return d
}

// sample is a vertex with three batches of two origins.
func sample() api.Vertex {
	return api.Vertex{Author: 2, Round: 1, Batches: []api.Batch{
		{Origin: 1, Seq: 1, Txs: []string{"a"}},
		{Origin: 3, Seq: 1, Txs: []string{"b", "c"}},
		{Origin: 1, Seq: 2, Txs: []string{"d"}},
	}}
}

// wrongs are vertices that are not valid in a committee of 4.
func wrongs() []api.Vertex {
	return []api.Vertex{{}, {Author: 5, Round: 1}, {Author: 1, Round: 0}, {Author: 1, Round: 1, Share: api.Elem{A: 1}}, {Author: 1, Round: 2}, {Author: 1, Round: 1, Batches: []api.Batch{{}}}, {Author: 1, Round: 1, Batches: []api.Batch{{Origin: 5, Seq: 1, Txs: []string{"a"}}}}}
}

// P10.1: what is sealed.
func TestSealedTexts(t *testing.T) {
	for _, d := range []string{"", "x", strings.Repeat("\xff", 32)} {
		if cert.Header(d) != "h"+d || cert.Vote(d) != "y"+d || cert.Origin(d) != "o"+d {
			t.Errorf("%q: %q %q %q", d, cert.Header(d), cert.Vote(d), cert.Origin(d))
		}
	}
}

// P10.1: Same.
func TestSame(t *testing.T) {
	p := api.Proof{V: sample(), Set: 7}
	if !cert.Same(p, api.Proof{V: sample(), Set: 7}) || !cert.Same(api.Proof{}, api.Proof{}) {
		t.Error("equal ones")
	}
	other := sample()
	other.Batches[1].Txs[1] = "x"
	for _, q := range []api.Proof{{V: sample(), Set: 15}, {V: sample()}, {V: other, Set: 7}, {Set: 7}, {V: api.Vertex{Author: 2, Round: 1}, Set: 7}} {
		if cert.Same(p, q) || cert.Same(q, p) {
			t.Errorf("%v", q)
		}
	}
}

// P10.2: Sealed: each seal is needed, that of the right seat for the right text.
func TestSealed(t *testing.T) {
	v := sample()
	d := digestOf(t, v, 4)
	needed := []api.Seal{seal(2, cert.Header(d))}
	for _, b := range v.Batches {
		needed = append(needed, seal(b.Origin, cert.Origin(batchDigest(t, b))))
	}
	var b []api.Seal
	for _, s := range needed {
		if e := cert.Sealed(4, b, v); e != api.ErrSeal {
			t.Errorf("%d seals: %d", len(b), e)
		}
		b = book.Put(b, s)
	}
	if e := cert.Sealed(4, b, v); e != api.OK {
		t.Errorf("all seals: %d", e)
	}
	for i, s := range needed {
		less := slices.DeleteFunc(slices.Clone(b), func(x api.Seal) bool { return x == s })
		if e := cert.Sealed(4, less, v); e != api.ErrSeal {
			t.Errorf("without %d: %d", i, e)
		}
		for _, other := range []api.Seal{seal(4, s.Text), seal(s.Id, "y"+s.Text[1:]), seal(s.Id, s.Text[1:]), seal(s.Id, s.Text+"x")} {
			if e := cert.Sealed(4, book.Put(less, other), v); e != api.ErrSeal {
				t.Errorf("%d, with another seal: %d", i, e)
			}
		}
	}
	if e := cert.Sealed(4, []api.Seal{seal(1, cert.Header(digestOf(t, api.Vertex{Author: 1, Round: 1}, 4)))}, api.Vertex{Author: 1, Round: 1}); e != api.OK {
		t.Errorf("without batches: %d", e)
	}
}

// P10.2: Sealed of what is not valid, in this committee.
func TestSealedErrors(t *testing.T) {
	for _, v := range wrongs() {
		if e := cert.Sealed(4, nil, v); e != api.ErrArg {
			t.Errorf("%v: %d", v, e)
		}
	}
	v := api.Vertex{Author: 1, Round: 1}
	for _, n := range []int{0, 3, 5, 67, -4, math.MaxInt} {
		if e := cert.Sealed(n, []api.Seal{seal(1, cert.Header(""))}, v); e != api.ErrArg {
			t.Errorf("in %d: %d", n, e)
		}
	}
	if e := cert.Sealed(7, nil, v); e != api.ErrSeal {
		t.Errorf("in 7: %d", e)
	}
}

// P10.2: Check, as in the chapter's example, and which of several errors is named first.
func TestCheck(t *testing.T) {
	v := api.Vertex{Author: 1, Round: 1}
	vote := cert.Vote(digestOf(t, v, 4))
	b := []api.Seal{seal(1, vote), seal(2, vote), seal(3, vote), seal(5, vote)}
	for _, x := range []struct {
		set uint64
		e   api.Errno
	}{
		{7, api.OK},
		{3, api.ErrMore}, {0, api.ErrMore}, {8, api.ErrMore}, {12, api.ErrMore},
		{15, api.ErrSeal}, {14, api.ErrSeal}, {11, api.ErrSeal},
		{23, api.ErrBig}, {16, api.ErrBig}, {1 << 63, api.ErrBig}, {math.MaxUint64, api.ErrBig},
	} {
		if e := cert.Check(4, b, api.Proof{V: v, Set: x.set}); e != x.e {
			t.Errorf("%d: %d", x.set, e)
		}
	}
	for _, v := range wrongs() {
		for _, set := range []uint64{7, 3, 23} {
			if e := cert.Check(4, b, api.Proof{V: v, Set: set}); e != api.ErrArg {
				t.Errorf("%v: %d", v, e)
			}
		}
	}
	for _, n := range []int{0, 5, 67, -1, math.MinInt} {
		if e := cert.Check(n, b, api.Proof{V: v, Set: 7}); e != api.ErrArg {
			t.Errorf("in %d: %d", n, e)
		}
	}
	other := []api.Seal{seal(1, vote), seal(2, vote), seal(3, "h"+vote[1:])}
	if e := cert.Check(4, other, api.Proof{V: v, Set: 7}); e != api.ErrSeal {
		t.Errorf("another text: %d", e)
	}
}

// P10.2: Check in a committee of 64, and of 7.
func TestCheckGreat(t *testing.T) {
	for _, n := range []int{7, 64} {
		v := api.Vertex{Author: n, Round: 1}
		vote := cert.Vote(digestOf(t, v, n))
		var b []api.Seal
		for id := 1; id <= n; id++ {
			b = append(b, seal(id, vote))
		}
		all := uint64(math.MaxUint64) >> (64 - n)
		quorum := uint64(1)<<(n-(n-1)/3) - 1
		for _, x := range []struct {
			set uint64
			e   api.Errno
		}{{all, api.OK}, {quorum, api.OK}, {quorum >> 1, api.ErrMore}, {all &^ quorum, api.ErrMore}, {all &^ 1, api.OK}} {
			if e := cert.Check(n, b, api.Proof{V: v, Set: x.set}); e != x.e {
				t.Errorf("%d, %x: %d", n, x.set, e)
			}
		}
		if e := cert.Check(n, b[:n-1], api.Proof{V: v, Set: all}); e != api.ErrSeal {
			t.Errorf("%d: %d", n, e)
		}
	}
}

// P10.3: Bytes, and which of several errors is named first.
func TestBytes(t *testing.T) {
	v := api.Vertex{Author: 1, Round: 1}
	if s, e := cert.Bytes(api.Proof{V: v, Set: 7}, 4); s != "\x01\x08\x01\x01\x01\x01\x00\x00\x00\x00\x01\x07" || e != api.OK {
		t.Errorf("%x %d", s, e)
	}
	body, _ := vertex.Bytes(sample(), 64)
	for _, set := range []uint64{1<<43 - 1, math.MaxUint64, math.MaxUint64 &^ (1<<21 - 1)} {
		if s, e := cert.Bytes(api.Proof{V: sample(), Set: set}, 64); s != digits.Text(body)+digits.Num(set) || e != api.OK {
			t.Errorf("%x: %x %d", set, s, e)
		}
	}
	for _, x := range []struct {
		v   api.Vertex
		n   int
		set uint64
		e   api.Errno
	}{
		{v, 4, 3, api.ErrMore}, {v, 4, 0, api.ErrMore}, {v, 4, 23, api.ErrBig}, {v, 4, 16, api.ErrBig}, {v, 7, 15, api.ErrMore}, {v, 7, 128, api.ErrBig},
		{v, 5, 7, api.ErrArg}, {v, 67, 7, api.ErrArg}, {v, math.MinInt, 7, api.ErrArg},
	} {
		if s, e := cert.Bytes(api.Proof{V: x.v, Set: x.set}, x.n); s != "" || e != x.e {
			t.Errorf("%x in %d: %x %d", x.set, x.n, s, e)
		}
	}
	for _, v := range wrongs() {
		for _, set := range []uint64{7, 3, 23} {
			if s, e := cert.Bytes(api.Proof{V: v, Set: set}, 4); s != "" || e != api.ErrArg {
				t.Errorf("%v: %x %d", v, s, e)
			}
		}
	}
}

// P10.3, P10.4: Take of what Bytes makes, of more, and of each beginning.
func TestTake(t *testing.T) {
	for _, p := range []api.Proof{{V: api.Vertex{Author: 1, Round: 1}, Set: 7}, {V: sample(), Set: 15}, {V: sample(), Set: 14}} {
		s, e := cert.Bytes(p, 4)
		if e != api.OK {
			t.Fatal(e)
		}
		if got, e := cert.Take(s, 4); !cert.Same(got, p) || e != api.OK {
			t.Errorf("%x: %v %d", s, got, e)
		}
		for _, after := range []string{"\x00", "z", s} {
			if got, e := cert.Take(s+after, 4); !cert.Same(got, api.Proof{}) || e != api.ErrForm {
				t.Errorf("%x: %v %d", s+after, got, e)
			}
		}
		for i := range len(s) {
			if got, e := cert.Take(s[:i], 4); !cert.Same(got, api.Proof{}) || e != api.ErrForm {
				t.Errorf("%x: %v %d", s[:i], got, e)
			}
		}
		for _, n := range []int{7, 64, 5, 0, -1, math.MaxInt} {
			if got, e := cert.Take(s, n); !cert.Same(got, api.Proof{}) || e != api.ErrForm {
				t.Errorf("in %d: %v %d", n, got, e)
			}
		}
	}
}

// P10.3: Take of what Bytes would not make.
func TestTakeWrong(t *testing.T) {
	v := "\x01\x08\x01\x01\x01\x01\x00\x00\x00\x00"
	for _, s := range []string{
		"", "\x09", v, v + "\x00", v + "\x01\x03", v + "\x01\x10", v + "\x01\x17", v + "\x02\x00\x07", v + "\x08\xff\xff\xff\xff\xff\xff\xff\xff", v + "\x09",
		"\x01\x07\x01\x01\x01\x01\x00\x00\x00\x01\x07",
		"\x01\x09\x01\x01\x01\x01\x00\x00\x00\x00\x00\x01\x07",
		"\x02\x00\x08\x01\x01\x01\x01\x00\x00\x00\x00\x01\x07",
		"\x01\x08\x01\x05\x01\x01\x00\x00\x00\x00\x01\x07",
		"\x01\x08\x01\x01\x01\x01\x00\x00\x01\x00\x01\x07",
		"\x08\xff\xff\xff\xff\xff\xff\xff\xff\x01\x01\x01\x01\x00\x00\x00\x00\x01\x07",
	} {
		if p, e := cert.Take(s, 4); !cert.Same(p, api.Proof{}) || e != api.ErrForm {
			t.Errorf("%x: %v %d", s, p, e)
		}
	}
}

// P10.3, P10.4, R1: what is taken from any bytes has that encoding.
func TestTakeAny(t *testing.T) {
	r := rand.New(rand.NewSource(1))
	s, _ := cert.Bytes(api.Proof{V: sample(), Set: 7}, 4)
	taken := 0
	for range 20000 {
		b := []byte(s)
		b[r.Intn(len(b))] = byte(r.Intn(16))
		p, e := cert.Take(string(b), 4)
		if e == api.OK {
			taken++
			if back, e := cert.Bytes(p, 4); back != string(b) || e != api.OK {
				t.Fatalf("%x: %v", b, p)
			}
		} else if e != api.ErrForm || !cert.Same(p, api.Proof{}) {
			t.Fatalf("%x: %v %d", b, p, e)
		}
	}
	if taken == 0 {
		t.Error("none was taken")
	}
}

// P10.4: two certificates of one author and round that both pass have at least Weak voters in common: each of these voted for both.
func TestTwoCertificates(t *testing.T) {
	one := api.Vertex{Author: 1, Round: 1}
	two := api.Vertex{Author: 1, Round: 1, Batches: []api.Batch{{Origin: 1, Seq: 1, Txs: []string{"a"}}}}
	for _, n := range []int{4, 7} {
		votes := [2]string{cert.Vote(digestOf(t, one, n)), cert.Vote(digestOf(t, two, n))}
		weak := (n-1)/3 + 1
		passed := 0
		for a := range uint64(1) << n {
			var b []api.Seal
			for id := 1; id <= n; id++ {
				if a>>(id-1)&1 == 1 {
					b = book.Put(b, seal(id, votes[0]))
				}
			}
			if cert.Check(n, b, api.Proof{V: one, Set: a}) != api.OK {
				continue
			}
			for _, c := range []uint64{7, 14, 15, 31, 62, 124, 121, 103} {
				both := b
				for id := 1; id <= n; id++ {
					if c>>(id-1)&1 == 1 {
						both = book.Put(both, seal(id, votes[1]))
					}
				}
				if cert.Check(n, both, api.Proof{V: two, Set: c}) == api.OK {
					passed++
					if bits.OnesCount64(a&c) < weak || bits.OnesCount64(book.By(both, votes[0])&book.By(both, votes[1])) < weak {
						t.Errorf("%d: %x %x", n, a, c)
					}
				}
			}
		}
		if passed == 0 {
			t.Errorf("%d: none passed", n)
		}
	}
}
