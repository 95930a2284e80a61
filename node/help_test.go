package node_test

import (
	"reflect"
	"slices"
	"testing"

	"selvedge/api"
	"selvedge/batch"
	"selvedge/book"
	"selvedge/cert"
	"selvedge/coin"
	"selvedge/node"
	"selvedge/paper"
	"selvedge/post"
	"selvedge/vertex"
)

const tape = "tape"

// same: are two values equal? A list without elements may be nil.
func same(a, b any) bool { return reflect.DeepEqual(plain(a), plain(b)) }

// plain is a copy of a value in which each list without elements is nil.
func plain(a any) any {
	v := reflect.New(reflect.TypeOf(a)).Elem()
	v.Set(reflect.ValueOf(a))
	flatten(v)
	return v.Interface()
}

func flatten(v reflect.Value) {
	switch v.Kind() {
	case reflect.Struct:
		for i := range v.NumField() {
			flatten(v.Field(i))
		}
	case reflect.Slice:
		if v.Len() == 0 {
			v.SetZero()
			return
		}
		c := reflect.MakeSlice(v.Type(), v.Len(), v.Len())
		reflect.Copy(c, v)
		for i := range c.Len() {
			flatten(c.Index(i))
		}
		v.Set(c)
	}
}

// unchanged tells whether a node equals another one, but for those fields.
func unchanged(a, b api.Node, but ...string) bool {
	va, vb := reflect.ValueOf(plain(a)), reflect.ValueOf(plain(b))
	for i := range va.NumField() {
		if !slices.Contains(but, va.Type().Field(i).Name) && !reflect.DeepEqual(va.Field(i).Interface(), vb.Field(i).Interface()) {
			return false
		}
	}
	return true
}

func must[T any](t *testing.T, x T, e api.Errno) T {
	t.Helper()
	if e != api.OK {
		t.Fatalf("error %d", e)
	}
	return x
}

func fresh(t *testing.T, id, n int) api.Node {
	t.Helper()
	x, e := node.New(id, n, tape)
	return must(t, x, e)
}

func digestOf(t *testing.T, v api.Vertex, n int) string {
	t.Helper()
	d, e := vertex.Digest(v, n)
	return must(t, d, e)
}

func headerOf(t *testing.T, v api.Vertex, n int) string {
	t.Helper()
	s, e := post.Header(v, n)
	return must(t, s, e)
}

func proofOf(t *testing.T, v api.Vertex, n int, set uint64) string {
	t.Helper()
	s, e := post.Proof(api.Proof{V: v, Set: set}, n)
	return must(t, s, e)
}

func ballotOf(t *testing.T, author, round int, digest string) string {
	t.Helper()
	s, e := post.Ballot(api.Ballot{Author: author, Round: round, Digest: digest})
	return must(t, s, e)
}

func sayOf(t *testing.T, author, round, voter int, digest string) string {
	t.Helper()
	s, e := post.Say(api.Say{Author: author, Round: round, Voter: voter, Digest: digest})
	return must(t, s, e)
}

func originOf(t *testing.T, b api.Batch) string {
	t.Helper()
	d, e := batch.Digest(b)
	return cert.Origin(must(t, d, e))
}

// frames are the frames of records.
func frames(t *testing.T, recs ...string) string {
	t.Helper()
	s := ""
	for _, rec := range recs {
		f, e := paper.Frame(rec)
		s += must(t, f, e)
	}
	return s
}

// over is a vertex over those that are given, with the share that the tape gives its author.
func over(t *testing.T, n, author, round int, parents ...api.Vertex) api.Vertex {
	t.Helper()
	v := api.Vertex{Author: author, Round: round}
	for _, p := range parents {
		v.Parents = append(v.Parents, digestOf(t, p, n))
	}
	slices.Sort(v.Parents)
	if round%3 == 0 {
		v.Share = coin.Own(tape, round/3, n, author)
	}
	return v
}

// grid are vertices of all seats, in so many rounds, each over all of the round before: those of a round one behind the other.
func grid(t *testing.T, n, rounds int) [][]api.Vertex {
	t.Helper()
	var l [][]api.Vertex
	for r := 1; r <= rounds; r++ {
		var row, before []api.Vertex
		if r > 1 {
			before = l[r-2]
		}
		for a := 1; a <= n; a++ {
			row = append(row, over(t, n, a, r, before...))
		}
		l = append(l, row)
	}
	return l
}

// quorum is a set of the first seats, so many that they are a quorum.
func quorum(n int) uint64 { return 1<<(n-(n-1)/3) - 1 }

// sealAll are the seals that a vertex needs: its author's, those of its batches' origins, and the votes of all seats.
func sealAll(t *testing.T, b []api.Seal, n int, v api.Vertex) []api.Seal {
	t.Helper()
	d := digestOf(t, v, n)
	b = book.Put(b, api.Seal{Id: v.Author, Text: cert.Header(d)})
	for _, x := range v.Batches {
		b = book.Put(b, api.Seal{Id: x.Origin, Text: originOf(t, x)})
	}
	for id := 1; id <= n; id++ {
		b = book.Put(b, api.Seal{Id: id, Text: cert.Vote(d)})
	}
	return b
}

// hearAll lets a node hear proofs of vertices, and expects that it takes each.
func hearAll(t *testing.T, x api.Node, rows ...[]api.Vertex) api.Node {
	t.Helper()
	for _, row := range rows {
		for _, v := range row {
			next, e := node.Hear(x, sealAll(t, nil, x.N, v), proofOf(t, v, x.N, quorum(x.N)))
			x = must(t, next, e)
		}
	}
	return x
}

// synced is a node after a sync, and what it sent.
func synced(t *testing.T, x api.Node) (api.Node, []api.Send) {
	t.Helper()
	x, out, e := node.Sync(x)
	return must(t, x, e), out
}

// announced is what a node of that number sends of a vertex of its own.
func announced(t *testing.T, id, n int, v api.Vertex) []api.Send {
	t.Helper()
	var l []api.Send
	for _, b := range v.Batches {
		if b.Origin == id {
			l = append(l, api.Send{Seal: api.Seal{Id: id, Text: originOf(t, b)}})
		}
	}
	d := digestOf(t, v, n)
	return append(l,
		api.Send{Seal: api.Seal{Id: id, Text: cert.Header(d)}, Text: headerOf(t, v, n)},
		api.Send{Seal: api.Seal{Id: id, Text: cert.Vote(d)}, Text: sayOf(t, id, v.Round, id, d)})
}

// down is a node without power.
func down(t *testing.T, x api.Node) api.Node {
	t.Helper()
	y, e := node.Submit(node.Arm(x, 0), "a")
	if e != api.ErrDead || !y.Down {
		t.Fatalf("it has power: %d", e)
	}
	return y
}
