package book_test

import (
	"math"
	"math/rand"
	"slices"
	"testing"

	"selvedge/api"
	"selvedge/book"
)

func seal(id int, text string) api.Seal { return api.Seal{Id: id, Text: text} }

// wrongIds are no seats.
func wrongIds() []int { return []int{0, -1, 65, 66, 128, math.MaxInt, math.MinInt} }

// P6.1: Right.
func TestRight(t *testing.T) {
	for _, x := range []struct {
		b    []api.Seal
		want bool
	}{
		{nil, true},
		{[]api.Seal{}, true},
		{[]api.Seal{seal(1, "")}, true},
		{[]api.Seal{seal(64, "x")}, true},
		{[]api.Seal{seal(1, "y"), seal(2, "x")}, true},
		{[]api.Seal{seal(1, ""), seal(1, "a"), seal(1, "ab"), seal(1, "b"), seal(3, "")}, true},
		{[]api.Seal{seal(1, "\x7f"), seal(1, "\x80"), seal(1, "\xff")}, true},
		{[]api.Seal{seal(1, "\xff"), seal(1, "\x00")}, false},
		{[]api.Seal{seal(1, "x"), seal(1, "x")}, false},
		{[]api.Seal{seal(2, "x"), seal(1, "y")}, false},
		{[]api.Seal{seal(1, "b"), seal(1, "a")}, false},
		{[]api.Seal{seal(1, "a"), seal(1, "b"), seal(1, "a")}, false},
		{[]api.Seal{seal(65, "x")}, false},
		{[]api.Seal{seal(0, "x")}, false},
		{[]api.Seal{seal(0, "x"), seal(1, "x")}, false},
		{[]api.Seal{seal(1, "x"), seal(65, "x")}, false},
		{[]api.Seal{seal(-1, "x"), seal(1, "x")}, false},
	} {
		if book.Right(x.b) != x.want {
			t.Errorf("Right(%v)", x.b)
		}
	}
}

// P6.1: Has, in books that are valid, and in such that are not.
func TestHas(t *testing.T) {
	for _, b := range [][]api.Seal{
		{seal(1, "y"), seal(2, "x")},
		{seal(2, "x"), seal(1, "y")},
		{seal(9, ""), seal(1, "y"), seal(3, "q"), seal(2, "x"), seal(2, "x")},
	} {
		for _, s := range b {
			if !book.Has(b, s) {
				t.Errorf("Has(%v, %v)", b, s)
			}
		}
		for _, s := range []api.Seal{seal(1, "x"), seal(2, "y"), seal(0, "x"), seal(1, ""), seal(1, "yy")} {
			if book.Has(b, s) {
				t.Errorf("Has(%v, %v)", b, s)
			}
		}
	}
	if book.Has(nil, api.Seal{}) {
		t.Error("an empty book")
	}
	if !book.Has([]api.Seal{seal(99, "z")}, seal(99, "z")) {
		t.Error("a seal is there, whatever its Id")
	}
}

// P6.1: Put, by hand.
func TestPut(t *testing.T) {
	x, y := seal(2, "x"), seal(1, "y")
	b := book.Put(book.Put(nil, x), y)
	if !slices.Equal(b, []api.Seal{y, x}) {
		t.Errorf("%v", b)
	}
	for _, s := range []api.Seal{x, y} {
		if again := book.Put(b, s); !slices.Equal(again, b) {
			t.Errorf("%v", again)
		}
	}
	for _, id := range wrongIds() {
		if got := book.Put(b, seal(id, "z")); !slices.Equal(got, b) {
			t.Errorf("Put %d: %v", id, got)
		}
		if got := book.Put(nil, seal(id, "z")); len(got) != 0 {
			t.Errorf("Put %d: %v", id, got)
		}
	}
}

// P6.1: Put in books that are not valid: before the first seal that is greater, wherever that is.
func TestPutWrong(t *testing.T) {
	for _, x := range []struct {
		b    []api.Seal
		s    api.Seal
		want []api.Seal
	}{
		{[]api.Seal{seal(5, "a"), seal(1, "a"), seal(9, "a")}, seal(3, "a"), []api.Seal{seal(3, "a"), seal(5, "a"), seal(1, "a"), seal(9, "a")}},
		{[]api.Seal{seal(1, "a"), seal(9, "a"), seal(2, "a")}, seal(3, "a"), []api.Seal{seal(1, "a"), seal(3, "a"), seal(9, "a"), seal(2, "a")}},
		{[]api.Seal{seal(3, "b"), seal(3, "b")}, seal(3, "c"), []api.Seal{seal(3, "b"), seal(3, "b"), seal(3, "c")}},
		{[]api.Seal{seal(9, "a"), seal(3, "a")}, seal(3, "a"), []api.Seal{seal(9, "a"), seal(3, "a")}},
		{[]api.Seal{seal(-5, "a"), seal(99, "a")}, seal(1, ""), []api.Seal{seal(-5, "a"), seal(1, ""), seal(99, "a")}},
	} {
		before := slices.Clone(x.b)
		if got := book.Put(x.b, x.s); !slices.Equal(got, x.want) {
			t.Errorf("Put(%v, %v): %v", x.b, x.s, got)
		}
		if !slices.Equal(x.b, before) {
			t.Errorf("changed: %v", x.b)
		}
	}
}

// P6.2: By and All, by hand.
func TestByAll(t *testing.T) {
	b := []api.Seal{seal(1, "x"), seal(2, "x"), seal(2, "y"), seal(64, "")}
	for _, x := range []struct {
		text string
		want uint64
	}{{"x", 3}, {"y", 2}, {"", 1 << 63}, {"z", 0}, {"xx", 0}} {
		if got := book.By(b, x.text); got != x.want {
			t.Errorf("By %q: %x", x.text, got)
		}
	}
	for _, x := range []struct {
		set  uint64
		text string
		want bool
	}{{3, "x", true}, {1, "x", true}, {0, "x", true}, {7, "x", false}, {3, "y", false}, {2, "y", true}, {0, "z", true}, {1, "z", false}, {1 << 63, "", true}, {1<<63 | 1, "", false}} {
		if got := book.All(b, x.set, x.text); got != x.want {
			t.Errorf("All %x %q: %v", x.set, x.text, got)
		}
	}
	if book.By(nil, "x") != 0 || !book.All(nil, 0, "x") || book.All(nil, 1, "x") {
		t.Error("an empty book")
	}
}

// P6.2: Put (2, x), (1, y): the seat 2 alone has sealed x.
func TestExample(t *testing.T) {
	b := book.Put(book.Put(nil, seal(2, "x")), seal(1, "y"))
	if book.By(b, "x") != 2 || book.All(b, 3, "x") || !book.All(b, 2, "x") {
		t.Errorf("%v", b)
	}
}

// P6.2: in a book that is not valid: seals anywhere count, those of no seats do not.
func TestByWrong(t *testing.T) {
	b := []api.Seal{seal(3, "x"), seal(1, "y"), seal(1, "x"), seal(1, "x")}
	for _, id := range wrongIds() {
		b = append(b, seal(id, "x"))
	}
	b = append(b, seal(5, "x"))
	if got := book.By(b, "x"); got != 1|4|16 {
		t.Errorf("%x", got)
	}
	if !book.All(b, 21, "x") || book.All(b, 23, "x") || book.All(b, 1<<63, "x") {
		t.Error("All")
	}
}

// P6.3: what was put in, in any order, is in; nothing else is; the book is valid.
func TestOrderDoesNotMatter(t *testing.T) {
	r := rand.New(rand.NewSource(1))
	texts := []string{"", "a", "ab", "b", "\x00", "\xff", "ha", "ya"}
	for range 100 {
		var l []api.Seal
		for range r.Intn(30) {
			l = append(l, seal(1+r.Intn(4)*21, texts[r.Intn(len(texts))]))
		}
		var first, second []api.Seal
		for i, s := range l {
			first = book.Put(first, s)
			if !book.Right(first) {
				t.Fatalf("not valid: %v", first)
			}
			for _, s := range l[:i+1] {
				if !book.Has(first, s) || book.By(first, s.Text)>>(s.Id-1)&1 != 1 {
					t.Fatalf("%v is not in %v", s, first)
				}
			}
		}
		for _, i := range r.Perm(len(l)) {
			second = book.Put(second, l[i])
		}
		if !slices.Equal(first, second) {
			t.Fatalf("%v and %v", first, second)
		}
		for _, s := range first {
			if !slices.Contains(l, s) {
				t.Fatalf("%v was not put in", s)
			}
		}
	}
}

// R3, R4: two books that follow from one do not disturb each other.
func TestTwoFromOne(t *testing.T) {
	// Room behind a list's end is where two that follow from it might meet.
	base := slices.Grow([]api.Seal{seal(1, "a"), seal(3, "a")}, 9)
	one := book.Put(base, seal(4, "one"))
	two := book.Put(base, seal(4, "two"))
	three := book.Put(base, seal(2, "three"))
	if !slices.Equal(one, []api.Seal{seal(1, "a"), seal(3, "a"), seal(4, "one")}) || !slices.Equal(two, []api.Seal{seal(1, "a"), seal(3, "a"), seal(4, "two")}) || !slices.Equal(three, []api.Seal{seal(1, "a"), seal(2, "three"), seal(3, "a")}) {
		t.Errorf("%v %v %v", one, two, three)
	}
	if !slices.Equal(base, []api.Seal{seal(1, "a"), seal(3, "a")}) {
		t.Errorf("%v", base)
	}
}
