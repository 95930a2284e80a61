// Package copies lays values of package api into new memory, so that what a function answers shares none with what it was given.
package copies

import (
	"slices"

	"selvedge/api"
)

// each copies a list, and what its elements hold.
func each[T any](l []T, one func(T) T) []T {
	if l == nil {
		return nil
	}
	all := make([]T, len(l))
	for i, x := range l {
		all[i] = one(x)
	}
	return all
}

// Batch copies a batch.
func Batch(b api.Batch) api.Batch {
	b.Txs = slices.Clone(b.Txs)
	return b
}

// Batches copies batches.
func Batches(l []api.Batch) []api.Batch { return each(l, Batch) }

// Vertex copies a vertex.
func Vertex(v api.Vertex) api.Vertex {
	v.Batches, v.Parents = Batches(v.Batches), slices.Clone(v.Parents)
	return v
}

// Entry copies an entry.
func Entry(x api.Entry) api.Entry {
	x.V = Vertex(x.V)
	return x
}

// Entries copies entries.
func Entries(l []api.Entry) []api.Entry { return each(l, Entry) }

// Dag copies a DAG.
func Dag(d api.Dag) api.Dag {
	d.L = Entries(d.L)
	return d
}

// Mark copies a mark.
func Mark(m api.Mark) api.Mark {
	m.Above = slices.Clone(m.Above)
	return m
}

// Marks copies marks.
func Marks(l []api.Mark) []api.Mark { return each(l, Mark) }

// Lane copies a lane.
func Lane(l api.Lane) api.Lane {
	l.Pool, l.Open = slices.Clone(l.Pool), Batches(l.Open)
	return l
}

// Block copies a block.
func Block(b api.Block) api.Block {
	b.Txs = slices.Clone(b.Txs)
	return b
}

// Proof copies a proof.
func Proof(p api.Proof) api.Proof {
	p.V = Vertex(p.V)
	return p
}

// Node copies a node.
func Node(x api.Node) api.Node {
	x.Lane, x.Votes, x.Mine = Lane(x.Lane), slices.Clone(x.Votes), Vertex(x.Mine)
	x.D, x.Wait = Dag(x.D), each(x.Wait, Proof)
	x.Done, x.Marks = slices.Clone(x.Done), Marks(x.Marks)
	x.Cut.Txs, x.Blocks = slices.Clone(x.Cut.Txs), each(x.Blocks, Block)
	x.Out = slices.Clone(x.Out)
	return x
}

// World copies a world.
func World(w api.World) api.World {
	w.Book, w.L = slices.Clone(w.Book), each(w.L, Node)
	w.Pool, w.Acc = slices.Clone(w.Pool), slices.Clone(w.Acc)
	return w
}
