package paper_test

import (
	"crypto/sha256"
	"math"
	"math/rand"
	"slices"
	"strings"
	"testing"

	"selvedge/api"
	"selvedge/digits"
	"selvedge/paper"
)

// plainFrame goes by the words.
func plainFrame(rec string) string {
	d := sha256.Sum256([]byte(rec))
	return digits.Text(rec) + string(d[:4])
}

func plainFrames(l ...string) string {
	s := ""
	for _, rec := range l {
		s += plainFrame(rec)
	}
	return s
}

// records are of all kinds.
func records() []string {
	return []string{"", "a", "ab", "\x00", "\x01\x02ab", plainFrame("ab"), strings.Repeat("x", 255), strings.Repeat("y", 256), strings.Repeat("z", 65536)}
}

// P17.1: Frame.
func TestFrame(t *testing.T) {
	for _, rec := range records() {
		if f, e := paper.Frame(rec); f != plainFrame(rec) || e != api.OK {
			t.Errorf("%d bytes: %d", len(rec), e)
		}
	}
	if f, _ := paper.Frame("ab"); len(f) != 8 || f[:4] != "\x01\x02ab" {
		t.Errorf("%x", f)
	}
	for _, size := range []int{65537, 100000, 1 << 20} {
		if f, e := paper.Frame(strings.Repeat("x", size)); f != "" || e != api.ErrBig {
			t.Errorf("%d bytes: %d", size, e)
		}
	}
}

// P17.1: Read: up to the first offset at which there is no frame.
func TestRead(t *testing.T) {
	two := plainFrames("ab", "")
	broken := func(s string, at int) string {
		b := []byte(s)
		b[at] ^= 1
		return string(b)
	}
	long := strings.Repeat("x", 65537)
	sum := sha256.Sum256([]byte(long))
	for i, x := range []struct {
		s    string
		want []string
		end  int
	}{
		{"", nil, 0},
		{two, []string{"ab", ""}, 13},
		{two + "\x00", []string{"ab", ""}, 13},
		{two[:12], []string{"ab"}, 8},
		{two[:9], []string{"ab"}, 8},
		{two[:8], []string{"ab"}, 8},
		{two[:7], nil, 0},
		{two[:1], nil, 0},
		{"x" + two, nil, 0},
		{"\x00" + two, nil, 0},
		{broken(two, 0), nil, 0},
		{broken(two, 1), nil, 0},
		{broken(two, 2), nil, 0},
		{broken(two, 4), nil, 0},
		{broken(two, 5), nil, 0},
		{broken(two, 6), nil, 0},
		{broken(two, 7), nil, 0},
		{broken(two, 8), []string{"ab"}, 8},
		{broken(two, 12), []string{"ab"}, 8},
		{broken(two, 3) + two, nil, 0},
		{plainFrame("a") + "\x02\x00\x01b" + two, []string{"a"}, 7},
		{plainFrame("a") + "\x09" + two, []string{"a"}, 7},
		{plainFrame("a") + "\x08\xff\xff\xff\xff\xff\xff\xff\xff" + two, []string{"a"}, 7},
		{plainFrames(records()...), records(), len(plainFrames(records()...))},
		{plainFrame("a") + digits.Text(long) + string(sum[:4]) + two, []string{"a"}, 7},
	} {
		if got, end := paper.Read(x.s); !slices.Equal(got, x.want) || end != x.end {
			t.Errorf("%d: %d records, %d bytes", i, len(got), end)
		}
	}
}

// P17.1: Arm and Records.
func TestArmRecords(t *testing.T) {
	for _, x := range []struct{ fuse, want int }{{0, 0}, {5, 5}, {math.MaxInt, math.MaxInt}, {-1, -1}, {-2, -1}, {math.MinInt, -1}} {
		for _, p := range []api.Paper{{}, {Safe: "s", Wait: "w", Fuse: 7, Off: true}, {Fuse: -9}} {
			want := p
			want.Fuse = x.want
			if got := paper.Arm(p, x.fuse); got != want {
				t.Errorf("%d: %v", x.fuse, got)
			}
		}
	}
	two := plainFrames("ab", "c")
	for i, x := range []struct {
		p    api.Paper
		want []string
	}{
		{api.Paper{}, nil},
		{api.Paper{Safe: two}, []string{"ab", "c"}},
		{api.Paper{Wait: two}, []string{"ab", "c"}},
		{api.Paper{Safe: two, Wait: plainFrame("d"), Off: true}, []string{"ab", "c", "d"}},
		{api.Paper{Safe: two[:5], Wait: two[5:]}, []string{"ab", "c"}},
		{api.Paper{Safe: two + "x", Wait: two}, []string{"ab", "c"}},
		{api.Paper{Safe: two, Wait: plainFrame("d")[:6]}, []string{"ab", "c"}},
		{api.Paper{Safe: "x", Wait: two}, nil},
	} {
		if got := paper.Records(x.p); !slices.Equal(got, x.want) {
			t.Errorf("%d: %q", i, got)
		}
	}
}

// P17.2: Append, with every kind of fuse.
func TestAppend(t *testing.T) {
	f := plainFrame("ab")
	for i, x := range []struct {
		p    api.Paper
		want api.Paper
		e    api.Errno
	}{
		{api.Paper{Fuse: -1}, api.Paper{Wait: f, Fuse: -1}, api.OK},
		{api.Paper{Fuse: -9}, api.Paper{Wait: f, Fuse: -9}, api.OK},
		{api.Paper{Safe: "s", Wait: "w", Fuse: -1}, api.Paper{Safe: "s", Wait: "w" + f, Fuse: -1}, api.OK},
		{api.Paper{Fuse: 20}, api.Paper{Wait: f, Fuse: 12}, api.OK},
		{api.Paper{Fuse: 9}, api.Paper{Wait: f, Fuse: 1}, api.OK},
		{api.Paper{Fuse: 8}, api.Paper{Wait: f}, api.OK},
		{api.Paper{Fuse: 7}, api.Paper{Wait: f[:7], Off: true}, api.ErrDead},
		{api.Paper{Fuse: 5}, api.Paper{Wait: f[:5], Off: true}, api.ErrDead},
		{api.Paper{Safe: "s", Wait: "w", Fuse: 1}, api.Paper{Safe: "s", Wait: "w" + f[:1], Off: true}, api.ErrDead},
		{api.Paper{}, api.Paper{Off: true}, api.ErrDead},
		{api.Paper{Off: true}, api.Paper{Off: true}, api.ErrDead},
		{api.Paper{Safe: "s", Wait: "w", Fuse: 99, Off: true}, api.Paper{Safe: "s", Wait: "w", Fuse: 99, Off: true}, api.ErrDead},
		{api.Paper{Fuse: -1, Off: true}, api.Paper{Fuse: -1, Off: true}, api.ErrDead},
	} {
		if got, e := paper.Append(x.p, "ab"); got != x.want || e != x.e {
			t.Errorf("%d: %v %d", i, got, e)
		}
	}
}

// P17.2: Append of what is too much, and which of several errors is named first.
func TestAppendErrors(t *testing.T) {
	big := strings.Repeat("x", 65537)
	room := func(left int) string { return strings.Repeat("s", 1<<20-left) }
	for i, x := range []struct {
		p   api.Paper
		rec string
		e   api.Errno
	}{
		{api.Paper{Fuse: -1}, big, api.ErrBig},
		{api.Paper{Fuse: 3}, big, api.ErrBig},
		{api.Paper{Off: true}, big, api.ErrBig},
		{api.Paper{Safe: room(0), Fuse: -1}, big, api.ErrBig},
		{api.Paper{Safe: room(0), Fuse: -1, Off: true}, "ab", api.ErrDead},
		{api.Paper{Safe: room(7), Fuse: -1}, "ab", api.ErrFull},
		{api.Paper{Safe: room(7), Fuse: 0}, "ab", api.ErrFull},
		{api.Paper{Wait: room(7), Fuse: -1}, "ab", api.ErrFull},
		{api.Paper{Safe: room(100), Wait: strings.Repeat("w", 93), Fuse: -1}, "ab", api.ErrFull},
		{api.Paper{Safe: room(0) + "more", Wait: "w", Fuse: -1}, "", api.ErrFull},
	} {
		if got, e := paper.Append(x.p, x.rec); got != x.p || e != x.e {
			t.Errorf("%d: %d", i, e)
		}
	}
	for i, p := range []api.Paper{{Safe: room(8), Fuse: -1}, {Safe: room(100), Wait: strings.Repeat("w", 92), Fuse: -1}} {
		if got, e := paper.Append(p, "ab"); got.Wait != p.Wait+plainFrame("ab") || e != api.OK {
			t.Errorf("it fits, %d: %d", i, e)
		}
	}
}

// P17.2: Sync.
func TestSync(t *testing.T) {
	for i, x := range []struct {
		p, want api.Paper
		e       api.Errno
	}{
		{api.Paper{}, api.Paper{}, api.OK},
		{api.Paper{Safe: "s", Wait: "w", Fuse: 3}, api.Paper{Safe: "sw", Fuse: 3}, api.OK},
		{api.Paper{Safe: "s", Fuse: -1}, api.Paper{Safe: "s", Fuse: -1}, api.OK},
		{api.Paper{Safe: "s", Wait: "w", Fuse: 3, Off: true}, api.Paper{Safe: "s", Wait: "w", Fuse: 3, Off: true}, api.ErrDead},
	} {
		if got, e := paper.Sync(x.p); got != x.want || e != x.e {
			t.Errorf("%d: %v %d", i, got, e)
		}
	}
}

// P17.3: Crash.
func TestCrash(t *testing.T) {
	ab, c := plainFrame("ab"), plainFrame("c")
	for i, x := range []struct {
		p    api.Paper
		keep int
		want string
	}{
		{api.Paper{Wait: ab}, 7, ""},
		{api.Paper{Wait: ab}, 8, ab},
		{api.Paper{Wait: ab}, 9, ab},
		{api.Paper{Wait: ab}, math.MaxInt, ab},
		{api.Paper{Wait: ab}, 0, ""},
		{api.Paper{Wait: ab}, -1, ""},
		{api.Paper{Wait: ab}, math.MinInt, ""},
		{api.Paper{Safe: ab, Wait: c, Fuse: 5, Off: true}, 6, ab},
		{api.Paper{Safe: ab, Wait: c, Fuse: 5, Off: true}, 7, ab + c},
		{api.Paper{Safe: ab, Wait: c[:3], Fuse: 0, Off: true}, 100, ab},
		{api.Paper{Safe: ab[:3], Wait: ab[3:] + c}, 5, ab},
		{api.Paper{Safe: ab[:3], Wait: ab[3:] + c}, 4, ""},
		{api.Paper{Safe: ab + "x", Wait: c}, 100, ab},
		{api.Paper{Safe: ab + c, Wait: ab}, 0, ab + c},
		{api.Paper{}, 3, ""},
	} {
		if got := paper.Crash(x.p, x.keep); got != (api.Paper{Safe: x.want, Fuse: -1}) {
			t.Errorf("%d: %v", i, got)
		}
	}
}

// P17.4: what was synchronized stays, whatever crashes occur; behind it is a prefix of what was appended since.
func TestCrashes(t *testing.T) {
	r := rand.New(rand.NewSource(1))
	for range 60 {
		p := api.Paper{Fuse: -1}
		var safe, wait []string
		for i := range 200 {
			switch r.Intn(6) {
			case 0:
				next, e := paper.Sync(p)
				if e == api.OK {
					safe, wait = append(safe, wait...), nil
				} else if !p.Off || next != p {
					t.Fatal(e)
				}
				p = next
			case 1:
				if r.Intn(4) == 0 {
					p = paper.Arm(p, r.Intn(60)-5)
				}
			case 2:
				p = paper.Crash(p, r.Intn(80)-5)
				if p.Off || p.Fuse != -1 || p.Wait != "" {
					t.Fatalf("%v", p)
				}
				got := paper.Records(p)
				if len(got) < len(safe) || len(got) > len(safe)+len(wait) || !slices.Equal(got, append(slices.Clone(safe), wait...)[:len(got)]) {
					t.Fatalf("%q of %q and %q", got, safe, wait)
				}
				safe, wait = got, nil
			default:
				rec := strings.Repeat(string(rune('a'+i%26)), r.Intn(20))
				next, e := paper.Append(p, rec)
				if e == api.OK {
					wait = append(wait, rec)
				} else if e != api.ErrDead || !next.Off {
					t.Fatal(e)
				}
				p = next
			}
			if got := paper.Records(p); !slices.Equal(got, append(slices.Clone(safe), wait...)) {
				t.Fatalf("%q of %q and %q", got, safe, wait)
			}
		}
	}
}
