package copies_test

import (
	"reflect"
	"testing"

	"selvedge/api"
	"selvedge/copies"
)

// sample is a DAG with something in each list.
func sample() api.Dag {
	v := api.Vertex{Author: 1, Round: 2, Batches: []api.Batch{{Origin: 1, Seq: 2, Txs: []string{"a", "b"}}, {}}, Parents: []string{"p", "q"}, Share: api.Elem{A: 1, B: 2}}
	return api.Dag{N: 4, Low: 1, L: []api.Entry{{Digest: "d", V: v}, {Digest: "e"}}}
}

// R3: a copy equals what it was made of, and what is done to it is not seen there.
func TestDag(t *testing.T) {
	d := sample()
	c := copies.Dag(d)
	if !reflect.DeepEqual(c, sample()) {
		t.Errorf("%v", c)
	}
	c.L[0].V.Batches[0].Txs[0] = "changed"
	c.L[0].V.Batches[1].Seq = 9
	c.L[0].V.Parents[0] = "changed"
	c.L[1].Digest = "changed"
	if !reflect.DeepEqual(d, sample()) {
		t.Errorf("%v", d)
	}
}

// R3: the same for marks.
func TestMarks(t *testing.T) {
	l := []api.Mark{{Origin: 1, Above: []int{2, 3}}, {Origin: 2}}
	c := copies.Marks(l)
	if !reflect.DeepEqual(c, l) || copies.Marks(nil) != nil {
		t.Errorf("%v", c)
	}
	c[0].Above[0], c[1].Low = 9, 9
	if l[0].Above[0] != 2 || l[1].Low != 0 {
		t.Errorf("%v", l)
	}
}

// R3: the same for a lane.
func TestLane(t *testing.T) {
	fresh := func() api.Lane {
		return api.Lane{Origin: 1, Next: 3, Pool: []string{"p", "q"}, Open: []api.Batch{{Origin: 1, Seq: 2, Txs: []string{"a"}}}}
	}
	l := fresh()
	c := copies.Lane(l)
	if !reflect.DeepEqual(c, fresh()) {
		t.Errorf("%v", c)
	}
	c.Pool[0], c.Open[0].Txs[0], c.Open[0].Seq = "changed", "changed", 9
	if !reflect.DeepEqual(l, fresh()) {
		t.Errorf("%v", l)
	}
}

// fill sets every field of a value to something, and every list to two elements.
func fill(v reflect.Value) {
	switch v.Kind() {
	case reflect.Struct:
		for i := range v.NumField() {
			fill(v.Field(i))
		}
	case reflect.Slice:
		v.Set(reflect.MakeSlice(v.Type(), 2, 4))
		for i := range v.Len() {
			fill(v.Index(i))
		}
	case reflect.String:
		v.SetString("x")
	case reflect.Bool:
		v.SetBool(true)
	case reflect.Uint64:
		v.SetUint(7)
	default:
		v.SetInt(7)
	}
}

// wipe sets everything that a value's lists hold to zero.
func wipe(v reflect.Value) {
	switch v.Kind() {
	case reflect.Struct:
		for i := range v.NumField() {
			wipe(v.Field(i))
		}
	case reflect.Slice:
		for i := range v.Len() {
			wipe(v.Index(i))
			v.Index(i).SetZero()
		}
	}
}

// R3: the same for a whole world, with each of its lists.
func TestWorld(t *testing.T) {
	var w, same api.World
	fill(reflect.ValueOf(&w).Elem())
	fill(reflect.ValueOf(&same).Elem())
	c := copies.World(w)
	if !reflect.DeepEqual(c, same) {
		t.Error("the copy is another one")
	}
	wipe(reflect.ValueOf(&c).Elem())
	if !reflect.DeepEqual(w, same) {
		t.Error("changed")
	}
	if e := copies.World(api.World{}); !reflect.DeepEqual(e, api.World{}) {
		t.Errorf("%v", e)
	}
}
