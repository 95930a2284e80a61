package digits_test

import (
	"math"
	"math/big"
	"math/rand"
	"slices"
	"strings"
	"testing"

	"selvedge/api"
	"selvedge/digits"
)

// edgeNumbers are those at which the number of bytes changes, their neighbours, and some whose inner bytes are zero.
func edgeNumbers() []uint64 {
	l := []uint64{0, 1, 2, 5, 127, 128, 0x10001, 0x0100000000000000, 0xff00ff00ff00ff00, math.MaxInt64, math.MaxInt64 + 1, math.MaxUint64 - 1, math.MaxUint64}
	for i := 1; i < 8; i++ {
		p := uint64(1) << (8 * i)
		l = append(l, p-1, p, p+1)
	}
	slices.Sort(l)
	return slices.Compact(l)
}

// plainNum is the encoding by another way: that of package big, which leaves leading zero bytes out.
func plainNum(v uint64) string {
	b := new(big.Int).SetUint64(v).Bytes()
	return string([]byte{byte(len(b))}) + string(b)
}

func plainText(t string) string { return plainNum(uint64(len(t))) + t }

func plainRow(l []string) string {
	s := plainNum(uint64(len(l)))
	for _, t := range l {
		s += plainText(t)
	}
	return s
}

func someTexts() []string {
	return []string{"", "a", "ab", "\x00", "\x00\x01", "\xff\xfe", "\x01\x02ab", "é", strings.Repeat("x", 255), strings.Repeat("y", 256), strings.Repeat("z", 65536)}
}

func someRows() [][]string {
	return [][]string{nil, {}, {""}, {"", ""}, {"a"}, {"a", "", "bc"}, {"ab", "ab"}, {"\x00", "\x09", "\x02\x00\x01"}, slices.Repeat([]string{"q"}, 300), someTexts()}
}

// afters are what may follow an encoding: also what looks like the beginning of another one.
func afters() []string { return []string{"", "z", "\x00", "\x01", "\x09", "\xff\xff", "\x01\x02ab"} }

// P1.1: Num.
func TestNumByHand(t *testing.T) {
	for _, x := range []struct {
		v uint64
		s string
	}{
		{0, "\x00"},
		{1, "\x01\x01"},
		{5, "\x01\x05"},
		{255, "\x01\xff"},
		{256, "\x02\x01\x00"},
		{65535, "\x02\xff\xff"},
		{65536, "\x03\x01\x00\x00"},
		{0x0102030405060708, "\x08\x01\x02\x03\x04\x05\x06\x07\x08"},
		{1<<56 - 1, "\x07\xff\xff\xff\xff\xff\xff\xff"},
		{1 << 56, "\x08\x01\x00\x00\x00\x00\x00\x00\x00"},
		{math.MaxUint64, "\x08\xff\xff\xff\xff\xff\xff\xff\xff"},
	} {
		if s := digits.Num(x.v); s != x.s {
			t.Errorf("Num(%d): %x, not %x", x.v, s, x.s)
		}
	}
}

// P1.1: Num, held against another way.
func TestNumPlain(t *testing.T) {
	r := rand.New(rand.NewSource(1))
	l := edgeNumbers()
	for range 2000 {
		l = append(l, r.Uint64()>>r.Intn(64))
	}
	for _, v := range l {
		if s := digits.Num(v); s != plainNum(v) {
			t.Errorf("Num(%d): %x, not %x", v, s, plainNum(v))
		}
	}
}

// P1.1: Text.
func TestText(t *testing.T) {
	for _, x := range []struct{ t, s string }{
		{"", "\x00"},
		{"ab", "\x01\x02ab"},
		{"\x00", "\x01\x01\x00"},
		{"é", "\x01\x02\xc3\xa9"},
		{strings.Repeat("x", 256), "\x02\x01\x00" + strings.Repeat("x", 256)},
	} {
		if s := digits.Text(x.t); s != x.s {
			t.Errorf("Text(%q): %q", x.t, s)
		}
	}
	for _, x := range someTexts() {
		if s := digits.Text(x); s != plainText(x) {
			t.Errorf("Text of %d bytes: %d bytes", len(x), len(s))
		}
	}
}

// P1.1: Row.
func TestRow(t *testing.T) {
	for _, x := range []struct {
		l []string
		s string
	}{
		{nil, "\x00"},
		{[]string{}, "\x00"},
		{[]string{""}, "\x01\x01\x00"},
		{[]string{"a", "", "bc"}, "\x01\x03\x01\x01a\x00\x01\x02bc"},
	} {
		if s := digits.Row(x.l); s != x.s {
			t.Errorf("Row(%q): %q", x.l, s)
		}
	}
	for _, l := range someRows() {
		if s := digits.Row(l); s != plainRow(l) {
			t.Errorf("Row of %d texts: %d bytes", len(l), len(s))
		}
	}
}

// P1.2: TakeNum, each error, and which of two is named first.
func TestTakeNumErrors(t *testing.T) {
	for _, x := range []struct {
		s string
		e api.Errno
	}{
		{"", api.ErrMore},
		{"\x09", api.ErrForm},
		{"\x09\x01\x02\x03\x04\x05\x06\x07\x08\x09", api.ErrForm},
		{"\x0a", api.ErrForm},
		{"\x80", api.ErrForm},
		{"\xff", api.ErrForm},
		{"\x01", api.ErrMore},
		{"\x02\x01", api.ErrMore},
		{"\x08\x01\x02\x03\x04\x05\x06\x07", api.ErrMore},
		{"\x02\x00", api.ErrMore},
		{"\x08\x00\x00\x00\x00\x00\x00\x00", api.ErrMore},
		{"\x01\x00", api.ErrForm},
		{"\x01\x00\x05", api.ErrForm},
		{"\x02\x00\x01", api.ErrForm},
		{"\x02\x00\x00", api.ErrForm},
		{"\x08\x00\x01\x02\x03\x04\x05\x06\x07", api.ErrForm},
	} {
		if v, rest, e := digits.TakeNum(x.s); v != 0 || rest != "" || e != x.e {
			t.Errorf("TakeNum(%x): %d %q %d, not error %d", x.s, v, rest, e, x.e)
		}
	}
}

// P1.2, P1.3: TakeNum of what Num makes, whatever follows.
func TestTakeNumBack(t *testing.T) {
	for _, v := range edgeNumbers() {
		for _, after := range afters() {
			if got, rest, e := digits.TakeNum(plainNum(v) + after); got != v || rest != after || e != api.OK {
				t.Errorf("TakeNum of %d: %d %q %d", v, got, rest, e)
			}
		}
	}
}

// P1.2: TakeText, each error, and which of two is named first.
func TestTakeTextErrors(t *testing.T) {
	for _, x := range []struct {
		s    string
		most int
		e    api.Errno
	}{
		{"", 5, api.ErrMore},
		{"", -1, api.ErrMore},
		{"\x09", 5, api.ErrForm},
		{"\x09", -1, api.ErrForm},
		{"\x02\x01", 5, api.ErrMore},
		{"\x02\x00\x01a", 5, api.ErrForm},
		{"\x02\x00\x01a", 0, api.ErrForm},
		{"\x01\x02ab", 1, api.ErrBig},
		{"\x01\x02ab", 0, api.ErrBig},
		{"\x01\x02ab", -1, api.ErrBig},
		{"\x01\x02ab", math.MinInt, api.ErrBig},
		{"\x00", -1, api.ErrBig},
		{"\x00", math.MinInt, api.ErrBig},
		{"\x01\x02a", 1, api.ErrBig},
		{"\x01\x02a", 2, api.ErrMore},
		{"\x01\x02a", math.MaxInt, api.ErrMore},
		{"\x01\x01", 1, api.ErrMore},
	} {
		if got, rest, e := digits.TakeText(x.s, x.most); got != "" || rest != "" || e != x.e {
			t.Errorf("TakeText(%x, %d): %q %q %d, not error %d", x.s, x.most, got, rest, e, x.e)
		}
	}
}

// P1.2, R5: a stated length beyond every int is held against most without a wrap-around.
func TestTakeTextGreatLength(t *testing.T) {
	for _, x := range []struct {
		size uint64
		most int
		e    api.Errno
	}{
		{math.MaxUint64, math.MaxInt, api.ErrBig},
		{math.MaxUint64, -1, api.ErrBig},
		{math.MaxUint64, 0, api.ErrBig},
		{math.MaxInt64 + 1, math.MaxInt, api.ErrBig},
		{math.MaxInt64, math.MaxInt, api.ErrMore},
		{math.MaxInt64, math.MaxInt - 1, api.ErrBig},
	} {
		if got, rest, e := digits.TakeText(plainNum(x.size)+"abc", x.most); got != "" || rest != "" || e != x.e {
			t.Errorf("length %d, most %d: %q %q %d, not error %d", x.size, x.most, got, rest, e, x.e)
		}
	}
}

// P1.2, P1.3: TakeText of what Text makes, with most met, and passed by one.
func TestTakeTextBack(t *testing.T) {
	for _, x := range someTexts() {
		for _, after := range afters() {
			for _, most := range []int{len(x), len(x) + 1, math.MaxInt} {
				if got, rest, e := digits.TakeText(plainText(x)+after, most); got != x || rest != after || e != api.OK {
					t.Errorf("TakeText of %d bytes, most %d: %d bytes, rest %q, %d", len(x), most, len(got), rest, e)
				}
			}
			if got, rest, e := digits.TakeText(plainText(x)+after, len(x)-1); got != "" || rest != "" || e != api.ErrBig {
				t.Errorf("TakeText of %d bytes, one above most: %q %q %d", len(x), got, rest, e)
			}
		}
	}
}

// P1.2: TakeRow, each error, and which of two is named first.
func TestTakeRowErrors(t *testing.T) {
	three := "\x01\x03\x01\x01a\x00\x01\x02bc"
	for _, x := range []struct {
		s          string
		many, most int
		e          api.Errno
	}{
		{"", 5, 5, api.ErrMore},
		{"", -1, -1, api.ErrMore},
		{"\x09", -1, 5, api.ErrForm},
		{"\x02\x01", 0, 5, api.ErrMore},
		{"\x01\x00", -1, 5, api.ErrForm},
		{three, 2, 2, api.ErrBig},
		{three, 0, 2, api.ErrBig},
		{three, -1, 2, api.ErrBig},
		{three, math.MinInt, 2, api.ErrBig},
		{three, 3, 1, api.ErrBig},
		{three, 3, 0, api.ErrBig},
		{three, 3, -1, api.ErrBig},
		{three, 3, math.MinInt, api.ErrBig},
		{"\x00", -1, 5, api.ErrBig},
		{"\x00", math.MinInt, 5, api.ErrBig},
		{"\x01\x01\x00", 1, -1, api.ErrBig},
		{"\x01\x03\x09", 2, 5, api.ErrBig},
		{"\x01\x03\x09", 3, 5, api.ErrForm},
		{"\x01\x01", 1, 5, api.ErrMore},
		{"\x01\x01", 1, -1, api.ErrMore},
		{"\x01\x02\x01\x01a", 2, 5, api.ErrMore},
		{"\x01\x02\x01\x01a\x01\x02b", 2, 5, api.ErrMore},
		{"\x01\x02\x01\x01a\x01\x02b", 2, 1, api.ErrBig},
		{"\x01\x02\x01\x03abc\x09", 2, 2, api.ErrBig},
		{"\x01\x02\x09\x01\x03abc", 2, 2, api.ErrForm},
		{"\x01\x02\x01\x01a\x02\x00\x01b", 2, 5, api.ErrForm},
	} {
		if l, rest, e := digits.TakeRow(x.s, x.many, x.most); len(l) != 0 || rest != "" || e != x.e {
			t.Errorf("TakeRow(%x, %d, %d): %q %q %d, not error %d", x.s, x.many, x.most, l, rest, e, x.e)
		}
	}
}

// P1.2, R1, R5: a stated count beyond what is there makes neither a wrap-around nor a great list.
func TestTakeRowGreatCount(t *testing.T) {
	for _, x := range []struct {
		size uint64
		many int
		e    api.Errno
	}{
		{math.MaxUint64, math.MaxInt, api.ErrBig},
		{math.MaxUint64, -1, api.ErrBig},
		{math.MaxUint64, 0, api.ErrBig},
		{math.MaxInt64 + 1, math.MaxInt, api.ErrBig},
		{math.MaxInt64, math.MaxInt - 1, api.ErrBig},
		{math.MaxInt64, math.MaxInt, api.ErrMore},
	} {
		if l, rest, e := digits.TakeRow(plainNum(x.size)+"\x00\x00\x00", x.many, 5); len(l) != 0 || rest != "" || e != x.e {
			t.Errorf("count %d, many %d: %q %q %d, not error %d", x.size, x.many, l, rest, e, x.e)
		}
	}
}

// P1.2: an empty list has no text that most could be too small for.
func TestTakeRowEmpty(t *testing.T) {
	for _, most := range []int{math.MinInt, -1, 0, 5} {
		if l, rest, e := digits.TakeRow("\x00z", 0, most); len(l) != 0 || rest != "z" || e != api.OK {
			t.Errorf("most %d: %q %q %d", most, l, rest, e)
		}
	}
}

// P1.2, P1.3: TakeRow of what Row makes, with many and most met, and passed by one.
func TestTakeRowBack(t *testing.T) {
	for i, l := range someRows() {
		longest := 0
		for _, x := range l {
			longest = max(longest, len(x))
		}
		for _, after := range afters() {
			s := plainRow(l) + after
			for more := range 2 {
				if got, rest, e := digits.TakeRow(s, len(l)+more, longest+more); !slices.Equal(got, l) || rest != after || e != api.OK {
					t.Errorf("row %d: %d texts, rest %q, %d", i, len(got), rest, e)
				}
			}
			if got, rest, e := digits.TakeRow(s, len(l)-1, longest); len(got) != 0 || rest != "" || e != api.ErrBig {
				t.Errorf("row %d, one above many: %q %q %d", i, got, rest, e)
			}
			if got, rest, e := digits.TakeRow(s, len(l), longest-1); len(l) > 0 && (len(got) != 0 || rest != "" || e != api.ErrBig) {
				t.Errorf("row %d, one above most: %q %q %d", i, got, rest, e)
			}
		}
	}
}

// P1.3: a proper prefix of an encoding is none.
func TestPrefixes(t *testing.T) {
	for _, v := range edgeNumbers() {
		s := digits.Num(v)
		for i := range len(s) {
			if _, rest, e := digits.TakeNum(s[:i]); e != api.ErrMore || rest != "" {
				t.Errorf("%d of %x: %q %d", i, s, rest, e)
			}
		}
	}
	for _, x := range []string{"", "a", "ab", "\x00\x00", strings.Repeat("x", 300)} {
		s := digits.Text(x)
		for i := range len(s) {
			if _, rest, e := digits.TakeText(s[:i], len(x)); e != api.ErrMore || rest != "" {
				t.Errorf("%d of %x: %q %d", i, s, rest, e)
			}
		}
	}
	for _, l := range [][]string{nil, {""}, {"", ""}, {"a", "", "bc"}, slices.Repeat([]string{""}, 300)} {
		s := digits.Row(l)
		for i := range len(s) {
			if got, rest, e := digits.TakeRow(s[:i], len(l), 2); e != api.ErrMore || len(got) != 0 || rest != "" {
				t.Errorf("%d of %x: %q %q %d", i, s, got, rest, e)
			}
		}
	}
}

// P1.3: of two numbers the greater one has the greater encoding.
func TestNumAscends(t *testing.T) {
	l := edgeNumbers()
	for i, a := range l {
		for _, b := range l[i+1:] {
			if digits.Num(a) >= digits.Num(b) {
				t.Errorf("%d and %d: %x and %x", a, b, digits.Num(a), digits.Num(b))
			}
		}
	}
	for v := range uint64(1 << 17) {
		if digits.Num(v) >= digits.Num(v+1) {
			t.Errorf("%d and the next one: %x and %x", v, digits.Num(v), digits.Num(v+1))
		}
	}
}

// eachShort calls f for each text of at most size of the bytes that matter to the encoding.
func eachShort(size int, f func(s string)) {
	bytes := "\x00\x01\x02\x03\x08\x09\xff"
	var grow func(s string)
	grow = func(s string) {
		f(s)
		if len(s) == size {
			return
		}
		for i := range len(bytes) {
			grow(s + bytes[i:i+1])
		}
	}
	grow("")
}

// P1.3: what is decoded is encoded as the same bytes. R2: beside an error stand zero values. (All short texts.)
func TestDecodedIsEncoded(t *testing.T) {
	limits := []int{math.MinInt, -1, 0, 1, 2, 3, math.MaxInt}
	eachShort(6, func(s string) {
		v, rest, e := digits.TakeNum(s)
		if e == api.OK && digits.Num(v)+rest != s || e != api.OK && (v != 0 || rest != "") {
			t.Fatalf("TakeNum(%x): %d %x %d", s, v, rest, e)
		}
		for _, most := range limits {
			x, rest, e := digits.TakeText(s, most)
			if e == api.OK && (digits.Text(x)+rest != s || len(x) > most) || e != api.OK && x+rest != "" {
				t.Fatalf("TakeText(%x, %d): %x %x %d", s, most, x, rest, e)
			}
		}
	})
	eachShort(5, func(s string) {
		for _, many := range limits {
			for _, most := range limits {
				l, rest, e := digits.TakeRow(s, many, most)
				if e == api.OK && (digits.Row(l)+rest != s || len(l) > many) || e != api.OK && (len(l) != 0 || rest != "") {
					t.Fatalf("TakeRow(%x, %d, %d): %q %x %d", s, many, most, l, rest, e)
				}
			}
		}
	})
}

// R1: any bytes and limits are taken without a panic; P1.3: what is decoded is encoded as the same bytes.
func TestAnyBytes(t *testing.T) {
	r := rand.New(rand.NewSource(2))
	for range 20000 {
		b := make([]byte, r.Intn(40))
		r.Read(b)
		for i := range b {
			if r.Intn(3) > 0 {
				b[i] &= 3
			}
		}
		s := string(b)
		if l, rest, e := digits.TakeRow(s, r.Intn(6)-1, r.Intn(6)-1); e == api.OK && digits.Row(l)+rest != s {
			t.Fatalf("%x: %q %x", s, l, rest)
		}
	}
}

// R3, R4: arguments stay as they are, and a list that was given out is changed without any effect on later calls.
func TestValues(t *testing.T) {
	l := []string{"a", "", "bc"}
	s := digits.Row(l)
	if !slices.Equal(l, []string{"a", "", "bc"}) {
		t.Errorf("Row changed its argument: %q", l)
	}
	l[0] = "x"
	if s != "\x01\x03\x01\x01a\x00\x01\x02bc" {
		t.Errorf("%q", s)
	}
	first, _, _ := digits.TakeRow(s, 3, 2)
	for i := range first {
		first[i] = "changed"
	}
	if again, rest, e := digits.TakeRow(s, 3, 2); !slices.Equal(again, []string{"a", "", "bc"}) || rest != "" || e != api.OK {
		t.Errorf("%q %q %d", again, rest, e)
	}
}
