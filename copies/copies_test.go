package copies_test

import (
	"reflect"
	"testing"

	"selvedge/api"
	"selvedge/copies"
)

// sample is a DAG with something in each list.
func sample() api.Dag {
	v := api.Vertex{Author: 1, Round: 2, Batches: []api.Batch{{Origin: 1, Seq: 2, Txs: []string{"a", "b"}}, {}}, Parents: []string{"p", "q"}, Share: api.Elem{A: 1, B: 2}}
	return api.Dag{N: 4, Low: 1, L: []api.Entry{{Digest: "d", V: v}, {Digest: "e"}}}
}

// R3: a copy equals what it was made of, and what is done to it is not seen there.
func TestDag(t *testing.T) {
	d := sample()
	c := copies.Dag(d)
	if !reflect.DeepEqual(c, sample()) {
		t.Errorf("%v", c)
	}
	c.L[0].V.Batches[0].Txs[0] = "changed"
	c.L[0].V.Batches[1].Seq = 9
	c.L[0].V.Parents[0] = "changed"
	c.L[1].Digest = "changed"
	if !reflect.DeepEqual(d, sample()) {
		t.Errorf("%v", d)
	}
}

// R3: the same for marks.
func TestMarks(t *testing.T) {
	l := []api.Mark{{Origin: 1, Above: []int{2, 3}}, {Origin: 2}}
	c := copies.Marks(l)
	if !reflect.DeepEqual(c, l) || copies.Marks(nil) != nil {
		t.Errorf("%v", c)
	}
	c[0].Above[0], c[1].Low = 9, 9
	if l[0].Above[0] != 2 || l[1].Low != 0 {
		t.Errorf("%v", l)
	}
}

// R3: the same for a lane.
func TestLane(t *testing.T) {
	fresh := func() api.Lane {
		return api.Lane{Origin: 1, Next: 3, Pool: []string{"p", "q"}, Open: []api.Batch{{Origin: 1, Seq: 2, Txs: []string{"a"}}}}
	}
	l := fresh()
	c := copies.Lane(l)
	if !reflect.DeepEqual(c, fresh()) {
		t.Errorf("%v", c)
	}
	c.Pool[0], c.Open[0].Txs[0], c.Open[0].Seq = "changed", "changed", 9
	if !reflect.DeepEqual(l, fresh()) {
		t.Errorf("%v", l)
	}
}
