package batch_test

import (
	"crypto/sha256"
	"math"
	"math/rand"
	"slices"
	"strings"
	"testing"

	"selvedge/api"
	"selvedge/batch"
	"selvedge/digits"
)

// rights are batches at the edges of what is valid, no two equal.
func rights() []api.Batch {
	long := strings.Repeat("x", 48)
	return []api.Batch{
		{Origin: 1, Seq: 1, Txs: []string{"a"}},
		{Origin: 1, Seq: 2, Txs: []string{"ab"}},
		{Origin: 2, Seq: 1, Txs: []string{"a"}},
		{Origin: 64, Seq: 1, Txs: []string{"a"}},
		{Origin: 1, Seq: 1 << 30, Txs: []string{"a"}},
		{Origin: 1, Seq: 255, Txs: []string{"a"}},
		{Origin: 1, Seq: 256, Txs: []string{"a"}},
		{Origin: 1, Seq: 1, Txs: []string{"\x00"}},
		{Origin: 1, Seq: 1, Txs: []string{"a", "a"}},
		{Origin: 1, Seq: 1, Txs: []string{"a", "b"}},
		{Origin: 1, Seq: 1, Txs: []string{"b", "a"}},
		{Origin: 1, Seq: 1, Txs: []string{"aa"}},
		{Origin: 1, Seq: 1, Txs: []string{"a", "a", "a", "a"}},
		{Origin: 1, Seq: 1, Txs: []string{long}},
		{Origin: 64, Seq: 1 << 30, Txs: []string{long, long, long, long}},
	}
}

// wrongs are batches that are not valid, each by one part alone.
func wrongs() []api.Batch {
	one := []string{"a"}
	var l []api.Batch
	for _, origin := range []int{0, -1, 65, 1 << 20, math.MaxInt, math.MinInt, math.MinInt + 1} {
		l = append(l, api.Batch{Origin: origin, Seq: 1, Txs: one})
	}
	for _, seq := range []int{0, -1, 1<<30 + 1, math.MaxInt, math.MinInt} {
		l = append(l, api.Batch{Origin: 1, Seq: seq, Txs: one})
	}
	for _, txs := range [][]string{nil, {}, {""}, {"a", ""}, {"", "a"}, {"a", "b", "c", ""}, {"a", "b", "c", "d", "e"}, {strings.Repeat("x", 49)}, {"a", strings.Repeat("x", 49)}, {strings.Repeat("x", 1000), "a"}} {
		l = append(l, api.Batch{Origin: 1, Seq: 1, Txs: txs})
	}
	return append(l, api.Batch{})
}

// P7.1: May.
func TestMay(t *testing.T) {
	for _, b := range rights() {
		if !batch.May(b) {
			t.Errorf("%v", b)
		}
	}
	for _, b := range wrongs() {
		if batch.May(b) {
			t.Errorf("%v", b)
		}
	}
}

// P7.1: Same, of batches of all kinds.
func TestSame(t *testing.T) {
	all := append(rights(), wrongs()...)
	for i, a := range all {
		for j, b := range all {
			want := a.Origin == b.Origin && a.Seq == b.Seq && slices.Equal(a.Txs, b.Txs)
			if batch.Same(a, b) != want || i == j && !want {
				t.Errorf("Same(%v, %v)", a, b)
			}
		}
	}
	a := api.Batch{Origin: 1, Seq: 2, Txs: []string{"a", "b"}}
	if !batch.Same(a, api.Batch{Origin: 1, Seq: 2, Txs: []string{"a", "b"}}) {
		t.Error("equal ones")
	}
	for _, b := range []api.Batch{{Origin: 2, Seq: 2, Txs: a.Txs}, {Origin: 1, Seq: 1, Txs: a.Txs}, {Origin: 1, Seq: 2}, {Origin: 1, Seq: 2, Txs: []string{"a"}}, {Origin: 1, Seq: 2, Txs: []string{"a", "c"}}, {Origin: 1, Seq: 2, Txs: []string{"b", "a"}}, {Origin: 1, Seq: 2, Txs: []string{"a", "b", ""}}} {
		if batch.Same(a, b) || batch.Same(b, a) {
			t.Errorf("%v", b)
		}
	}
	if !batch.Same(api.Batch{}, api.Batch{Txs: []string{}}) {
		t.Error("a list without elements")
	}
}

// plainBytes go by the words of the promise.
func plainBytes(b api.Batch) string {
	return digits.Num(uint64(b.Origin)) + digits.Num(uint64(b.Seq)) + digits.Row(b.Txs)
}

// P7.1: Bytes.
func TestBytes(t *testing.T) {
	if s, e := batch.Bytes(api.Batch{Origin: 1, Seq: 2, Txs: []string{"ab"}}); s != "\x01\x01\x01\x02\x01\x01\x01\x02ab" || e != api.OK {
		t.Errorf("%x %d", s, e)
	}
	for _, b := range rights() {
		if s, e := batch.Bytes(b); s != plainBytes(b) || e != api.OK {
			t.Errorf("Bytes(%v): %x %d", b, s, e)
		}
	}
	for _, b := range wrongs() {
		if s, e := batch.Bytes(b); s != "" || e != api.ErrArg {
			t.Errorf("Bytes(%v): %x %d", b, s, e)
		}
	}
}

// P7.1: Digest.
func TestDigest(t *testing.T) {
	for _, b := range rights() {
		want := sha256.Sum256([]byte("b" + plainBytes(b)))
		if d, e := batch.Digest(b); d != string(want[:]) || e != api.OK {
			t.Errorf("Digest(%v): %x %d", b, d, e)
		}
	}
	for _, b := range wrongs() {
		if d, e := batch.Digest(b); d != "" || e != api.ErrArg {
			t.Errorf("Digest(%v): %x %d", b, d, e)
		}
	}
}

// zero: is a batch the zero value?
func zero(b api.Batch) bool { return b.Origin == 0 && b.Seq == 0 && len(b.Txs) == 0 }

// P7.2, P7.3: Take of what Bytes makes; of that and more, and of each beginning of it.
func TestTake(t *testing.T) {
	for _, b := range rights() {
		s := plainBytes(b)
		if got, e := batch.Take(s); !batch.Same(got, b) || e != api.OK {
			t.Errorf("Take(%x): %v %d", s, got, e)
		}
		for _, after := range []string{"\x00", "z", s} {
			if got, e := batch.Take(s + after); !zero(got) || e != api.ErrForm {
				t.Errorf("Take(%x): %v %d", s+after, got, e)
			}
		}
		for i := range len(s) {
			if got, e := batch.Take(s[:i]); !zero(got) || e != api.ErrForm {
				t.Errorf("Take(%x): %v %d", s[:i], got, e)
			}
		}
	}
}

// P7.2: Take of what would be the encoding of a batch that is not valid.
func TestTakeWrong(t *testing.T) {
	for _, b := range wrongs() {
		if got, e := batch.Take(plainBytes(b)); !zero(got) || e != api.ErrForm {
			t.Errorf("Take(%x): %v %d", plainBytes(b), got, e)
		}
	}
	for _, s := range []string{
		"", "\x09", "\xff\xff\xff",
		"\x02\x00\x01\x01\x02\x01\x01\x01\x02ab",
		"\x01\x01\x02\x00\x02\x01\x01\x01\x02ab",
		"\x01\x01\x01\x02\x02\x00\x01\x01\x02ab",
		"\x01\x01\x01\x02\x01\x01\x02\x00\x02ab",
		"\x08\x80\x00\x00\x00\x00\x00\x00\x01\x01\x02\x01\x01\x01\x02ab",
		"\x01\x01\x08\xff\xff\xff\xff\xff\xff\xff\xff\x01\x01\x01\x02ab",
		"\x05\x01\x00\x00\x00\x01\x01\x02\x01\x01\x01\x02ab",
		"\x01\x01\x05\x01\x00\x00\x00\x01\x01\x01\x01\x02ab",
		"\x01\x01\x01\x02\x08\xff\xff\xff\xff\xff\xff\xff\xff\x01\x02ab",
		"\x01\x01\x01\x02\x01\x01\x08\xff\xff\xff\xff\xff\xff\xff\xffab",
	} {
		if got, e := batch.Take(s); !zero(got) || e != api.ErrForm {
			t.Errorf("Take(%x): %v %d", s, got, e)
		}
	}
}

// P7.2, P7.3, R1: what is taken from any bytes is a valid batch with that encoding.
func TestTakeAny(t *testing.T) {
	r := rand.New(rand.NewSource(1))
	l := rights()
	taken := 0
	for range 30000 {
		b := []byte(plainBytes(l[r.Intn(len(l))]))
		for range 1 + r.Intn(2) {
			b[r.Intn(len(b))] = byte(r.Intn(4))
		}
		got, e := batch.Take(string(b))
		if e == api.OK {
			taken++
			if s, _ := batch.Bytes(got); s != string(b) || !batch.May(got) {
				t.Fatalf("Take(%x): %v", b, got)
			}
		} else if e != api.ErrForm || !zero(got) {
			t.Fatalf("Take(%x): %v %d", b, got, e)
		}
	}
	if taken == 0 {
		t.Error("none was taken")
	}
}

// P7.3: two valid batches have the same encoding, and the same digest, if and only if they are equal.
func TestEncodingsDiffer(t *testing.T) {
	for i, a := range rights() {
		for j, b := range rights() {
			s, _ := batch.Bytes(a)
			u, _ := batch.Bytes(b)
			d, _ := batch.Digest(a)
			c, _ := batch.Digest(b)
			if (s == u) != (i == j) || (d == c) != (i == j) {
				t.Errorf("%v and %v", a, b)
			}
		}
	}
}

// R3: arguments stay as they are; a batch that was taken is changed without any effect on later calls.
func TestValues(t *testing.T) {
	b := api.Batch{Origin: 1, Seq: 2, Txs: []string{"b", "a"}}
	s, _ := batch.Bytes(b)
	batch.May(b)
	batch.Digest(b)
	if !slices.Equal(b.Txs, []string{"b", "a"}) {
		t.Errorf("%v", b)
	}
	got, _ := batch.Take(s)
	got.Txs[0] = "changed"
	if again, _ := batch.Take(s); !batch.Same(again, b) {
		t.Errorf("%v", again)
	}
}
