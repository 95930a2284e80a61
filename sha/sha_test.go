package sha_test

import (
	"crypto/sha256"
	"encoding/hex"
	"math/big"
	"math/rand"
	"strings"
	"testing"

	"selvedge/api"
	"selvedge/sha"
)

// primes are the first so many.
func primes(many int) []int64 {
	var l []int64
	for p := int64(2); len(l) < many; p++ {
		if big.NewInt(p).ProbablyPrime(10) {
			l = append(l, p)
		}
	}
	return l
}

// fraction are the first 32 bits behind the point of the root (2: square, 3: cube) of p: found bit by bit, with whole numbers alone.
func fraction(p int64, root int) uint32 {
	goal := new(big.Int).Lsh(big.NewInt(p), uint(32*root))
	x := new(big.Int)
	for bit := 40; bit >= 0; bit-- {
		y := new(big.Int).SetBit(x, bit, 1)
		if new(big.Int).Exp(y, big.NewInt(int64(root)), nil).Cmp(goal) <= 0 {
			x = y
		}
	}
	return uint32(new(big.Int).And(x, big.NewInt(1<<32-1)).Uint64())
}

// P2.1: Words, from the primes.
func TestWords(t *testing.T) {
	w := sha.Words()
	if w[0] != 0x428a2f98 || w[63] != 0xc67178f2 {
		t.Errorf("%x %x", w[0], w[63])
	}
	for i, p := range primes(64) {
		if w[i] != fraction(p, 3) {
			t.Errorf("word %d: %x, not %x", i, w[i], fraction(p, 3))
		}
	}
}

// P2.1: First, from the primes.
func TestFirst(t *testing.T) {
	h := sha.First()
	if h[0] != 0x6a09e667 || h[7] != 0x5be0cd19 {
		t.Errorf("%x %x", h[0], h[7])
	}
	for i, p := range primes(8) {
		if h[i] != fraction(p, 2) {
			t.Errorf("word %d: %x, not %x", i, h[i], fraction(p, 2))
		}
	}
}

// R3, R4: what a caller does with the constants is not seen by later calls.
func TestConstantsStay(t *testing.T) {
	w, h := sha.Words(), sha.First()
	w[0], h[0] = 0, 0
	if sha.Words()[0] != 0x428a2f98 || sha.First()[0] != 0x6a09e667 || sha.Sum("abc") != plainSum("abc") {
		t.Error("a constant was changed")
	}
}

// plainPad goes by the words of the promise: one zero byte more, until the length is right.
func plainPad(s string) string {
	p := s + "\x80"
	for (len(p)+8)%64 != 0 {
		p += "\x00"
	}
	size := big.NewInt(int64(len(s)) * 8).FillBytes(make([]byte, 8))
	return p + string(size)
}

// P2.1: Pad, by hand, at the edges and for each length up to some blocks.
func TestPad(t *testing.T) {
	if p := sha.Pad("abc"); p != "abc\x80"+strings.Repeat("\x00", 59)+"\x18" {
		t.Errorf("%x", p)
	}
	if p := sha.Pad(""); p != "\x80"+strings.Repeat("\x00", 63) {
		t.Errorf("%x", p)
	}
	for _, x := range []struct{ size, want int }{{0, 64}, {3, 64}, {55, 64}, {56, 128}, {63, 128}, {64, 128}, {119, 128}, {120, 192}} {
		if p := sha.Pad(strings.Repeat("q", x.size)); len(p) != x.want {
			t.Errorf("%d bytes: %d", x.size, len(p))
		}
	}
	for size := range 400 {
		s := strings.Repeat("\xa5", size)
		if p := sha.Pad(s); p != plainPad(s) {
			t.Errorf("%d bytes: %x", size, p)
		}
	}
	long := strings.Repeat("x", 1<<17)
	if p := sha.Pad(long); p != plainPad(long) {
		t.Errorf("2^17 bytes: %d", len(p))
	}
}

// P2.2: Block of anything but 64 bytes.
func TestBlockErrors(t *testing.T) {
	for _, size := range []int{0, 1, 5, 32, 63, 65, 128, 1000} {
		if h, e := sha.Block(sha.First(), strings.Repeat("x", size)); h != [8]uint32{} || e != api.ErrArg {
			t.Errorf("%d bytes: %x %d", size, h, e)
		}
	}
}

// P2.2: Block of the one block of abc gives the known digest, and does not change the state that it was given.
func TestBlockByHand(t *testing.T) {
	first := sha.First()
	h, e := sha.Block(first, sha.Pad("abc"))
	if e != api.OK || h != [8]uint32{0xba7816bf, 0x8f01cfea, 0x414140de, 0x5dae2223, 0xb00361a3, 0x96177a9c, 0xb410ff61, 0xf20015ad} {
		t.Errorf("%x %d", h, e)
	}
	if first != sha.First() {
		t.Errorf("%x", first)
	}
}

// plainBlock goes by the words of the promise, with numbers of 64 bits, and a table of rotations by shifts.
func plainBlock(h [8]uint32, block string) [8]uint32 {
	const mask = 1<<32 - 1
	turn := func(x uint64, l ...uint) uint64 {
		var r uint64
		for _, n := range l {
			r ^= (x>>n | x<<(32-n)) & mask
		}
		return r
	}
	w := make([]uint64, 64)
	for i := range 16 {
		for j := range 4 {
			w[i] += uint64(block[4*i+j]) << (24 - 8*j)
		}
	}
	for i := 16; i < 64; i++ {
		w[i] = (w[i-16] + (turn(w[i-15], 7, 18) ^ w[i-15]>>3) + w[i-7] + (turn(w[i-2], 17, 19) ^ w[i-2]>>10)) & mask
	}
	v := make([]uint64, 8)
	for i, x := range h {
		v[i] = uint64(x)
	}
	for i := range 64 {
		t := v[7] + turn(v[4], 6, 11, 25) + (v[4]&v[5] ^ (mask^v[4])&v[6]) + uint64(sha.Words()[i]) + w[i]
		u := turn(v[0], 2, 13, 22) + (v[0]&v[1] ^ v[0]&v[2] ^ v[1]&v[2])
		v = []uint64{(t + u) & mask, v[0], v[1], v[2], (v[3] + t) & mask, v[4], v[5], v[6]}
	}
	for i := range h {
		h[i] += uint32(v[i])
	}
	return h
}

// P2.2: Block, from any state, held against another way.
func TestBlockPlain(t *testing.T) {
	r := rand.New(rand.NewSource(1))
	for range 300 {
		var h [8]uint32
		for i := range h {
			h[i] = r.Uint32()
		}
		b := make([]byte, 64)
		r.Read(b)
		if got, e := sha.Block(h, string(b)); e != api.OK || got != plainBlock(h, string(b)) {
			t.Fatalf("%x %x: %x %d", h, b, got, e)
		}
	}
}

func plainSum(s string) string {
	d := sha256.Sum256([]byte(s))
	return string(d[:])
}

// P2.3: Sum, for each length up to some blocks, and for long texts, held against the library's.
func TestSum(t *testing.T) {
	r := rand.New(rand.NewSource(2))
	for size := range 400 {
		b := make([]byte, size)
		r.Read(b)
		if sha.Sum(string(b)) != plainSum(string(b)) {
			t.Errorf("%d bytes: %x", size, sha.Sum(string(b)))
		}
	}
	for _, s := range []string{"", "abc", "\x00", "\xff\xff", strings.Repeat("a", 1000000), strings.Repeat("\x80", 65537)} {
		if d := sha.Sum(s); d != plainSum(s) || len(d) != 32 {
			t.Errorf("%d bytes: %x", len(s), d)
		}
	}
}

// P2.3: Sum is Block, from First, over each 64 bytes of Pad.
func TestSumIsBlocks(t *testing.T) {
	s := strings.Repeat("selvedge", 40)
	h := sha.First()
	for p := sha.Pad(s); p != ""; p = p[64:] {
		h, _ = sha.Block(h, p[:64])
	}
	d := ""
	for _, x := range h {
		d += string([]byte{byte(x >> 24), byte(x >> 16), byte(x >> 8), byte(x)})
	}
	if sha.Sum(s) != d {
		t.Errorf("%x, not %x", sha.Sum(s), d)
	}
}

// P2.3: Hex.
func TestHex(t *testing.T) {
	for _, x := range []struct{ s, want string }{
		{"", ""},
		{"\x00", "00"},
		{"\x0f\xf0", "0ff0"},
		{"\x09\x0a\x9a\xa9", "090a9aa9"},
		{"abc", "616263"},
		{sha.Sum("abc"), "ba7816bf8f01cfea414140de5dae2223b00361a396177a9cb410ff61f20015ad"},
		{sha.Sum(""), "e3b0c44298fc1c149afbf4c8996fb92427ae41e4649b934ca495991b7852b855"},
	} {
		if got := sha.Hex(x.s); got != x.want {
			t.Errorf("Hex(%x): %s", x.s, got)
		}
	}
	for i := range 256 {
		s := string([]byte{byte(i), byte(255 - i)})
		if got := sha.Hex(s); got != hex.EncodeToString([]byte(s)) {
			t.Errorf("Hex(%x): %s", s, got)
		}
	}
}
