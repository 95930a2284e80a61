package node

import (
	"slices"

	"selvedge/api"
	"selvedge/batch"
	"selvedge/cert"
	"selvedge/coin"
	"selvedge/cut"
	"selvedge/dag"
	"selvedge/lane"
	"selvedge/order"
	"selvedge/paper"
	"selvedge/post"
	"selvedge/seats"
	"selvedge/vertex"
	"selvedge/vote"
)

// sealRec is the record of a batch that was made.
const sealRec = "s"

// waveLen is how many rounds a wave has.
const waveLen = 3

// seat is a node to which something is done; its memory is its own.
type seat struct{ api.Node }

// send puts out what a sync lets go.
func (s *seat) send(seal api.Seal, text string) {
	s.Out = append(s.Out, api.Send{Seal: seal, Text: text})
}

// sealed is a text that the seat seals.
func (s *seat) sealed(text string) api.Seal { return api.Seal{Id: s.Id, Text: text} }

// sync makes safe what was written.
func (s *seat) sync() api.Errno {
	p, e := paper.Sync(s.P)
	s.P = p
	if e != api.OK {
		s.Down = true
	}
	return e
}

// write writes a record down, and then does what it says.
func (s *seat) write(rec string) api.Errno {
	p, e := paper.Append(s.P, rec)
	s.P = p
	if e != api.OK {
		s.Down = true
		return e
	}
	s.apply(rec)
	return api.OK
}

// apply does what a record says; it tells whether a vertex was added to the DAG.
func (s *seat) apply(rec string) bool {
	switch post.Kind(rec) {
	case 't':
		if tx, e := post.TakeTx(rec); e == api.OK {
			s.Lane, _ = lane.Submit(s.Lane, tx)
		}
	case 's':
		if rec == sealRec {
			s.Lane, _ = lane.Seal(s.Lane)
		}
	case 'h':
		if v, e := post.TakeHeader(rec, s.N); e == api.OK {
			s.Mine, s.Has = v, true
			s.Set, _ = seats.Put(0, s.Id)
		}
	case 'v':
		if b, e := post.TakeBallot(rec); e == api.OK {
			s.Votes, _ = vote.Give(s.Votes, s.D.Low, b)
		}
	case 'c':
		if p, e := post.TakeProof(rec, s.N); e == api.OK {
			return s.add(p.V)
		}
	}
	return false
}

// add adds a certified vertex, if that may be, and commits what follows from it.
func (s *seat) add(v api.Vertex) bool {
	d, e := dag.Add(s.D, v)
	if e != api.OK {
		return false
	}
	s.D = d
	s.commit()
	return true
}

// commit puts into blocks what the leaders that are committed now bring along.
func (s *seat) commit() {
	parts, last, done := order.All(s.D, s.Last, s.Done)
	for _, part := range parts {
		for _, x := range part {
			for _, b := range x.V.Batches {
				s.order(b)
			}
		}
		next, l := cut.Flush(s.Cut)
		s.Cut, s.Blocks = next, append(s.Blocks, l...)
	}
	s.Last, s.Done = last, done
	if len(parts) > 0 {
		s.D = dag.Drop(s.D, waveLen*last-2-api.Depth)
		s.Votes = vote.Floor(s.Votes, s.D.Low)
	}
}

// order puts a batch behind those that were ordered, unless it was.
func (s *seat) order(b api.Batch) {
	if !order.Fresh(s.Marks, b.Origin, b.Seq) {
		return
	}
	s.Marks = order.Note(s.Marks, b.Origin, b.Seq)
	next, l := cut.Feed(s.Cut, b.Txs)
	s.Cut, s.Blocks = next, append(s.Blocks, l...)
	if b.Origin == s.Id {
		s.Lane = lane.Ordered(s.Lane, b.Seq)
	}
}

// submit takes a transaction in; what was accepted is safe.
func (s *seat) submit(tx string) api.Errno {
	if _, e := lane.Submit(s.Lane, tx); e != api.OK {
		return e
	}
	if e := s.write(post.Tx(tx)); e != api.OK {
		return e
	}
	return s.sync()
}

// seal makes a batch.
func (s *seat) seal() api.Errno {
	if _, e := lane.Seal(s.Lane); e != api.OK {
		return e
	}
	return s.write(sealRec)
}

// top is the greatest round of which a quorum is certified.
func (s *seat) top() int {
	many := map[int]int{}
	for _, x := range s.D.L {
		many[x.V.Round]++
	}
	var rounds []int
	for r, k := range many {
		if k >= seats.Quorum(s.N) {
			rounds = append(rounds, r)
		}
	}
	if len(rounds) == 0 {
		return 0
	}
	return slices.Max(rounds)
}

// propose proposes a vertex of the next round, or the same one again.
func (s *seat) propose() api.Errno {
	top := s.top()
	r := top + 1
	switch {
	case r > api.MaxRound:
		return api.ErrBig
	case s.Has && s.Mine.Round > r:
		return api.ErrBusy
	case s.Has && s.Mine.Round == r:
		s.announce(s.Mine)
		return api.OK
	}
	v := s.over(top)
	header, e := post.Header(v, s.N)
	if e != api.OK {
		return api.ErrArg
	}
	digest, _ := vertex.Digest(v, s.N)
	if e := s.write(header); e != api.OK {
		return e
	}
	if e := s.writeBallot(api.Ballot{Author: s.Id, Round: r, Digest: digest}); e != api.OK {
		return e
	}
	s.announce(v)
	return api.OK
}

// over is the vertex that the seat proposes over those of a round.
func (s *seat) over(top int) api.Vertex {
	v := api.Vertex{Author: s.Id, Round: top + 1, Batches: lane.Pick(s.Lane, api.MaxBatches)}
	for _, x := range dag.Round(s.D, top) {
		v.Parents = append(v.Parents, x.Digest)
	}
	slices.Sort(v.Parents)
	if vertex.Third(v.Round) {
		v.Share = coin.Own(s.Tape, vertex.Wave(v.Round), s.N, s.Id)
	}
	return v
}

// writeBallot writes down what the seat votes for.
func (s *seat) writeBallot(b api.Ballot) api.Errno {
	rec, e := post.Ballot(b)
	if e != api.OK {
		return e
	}
	return s.write(rec)
}

// announce tells a vertex of the seat's own to all, with what it seals of it.
func (s *seat) announce(v api.Vertex) {
	for _, b := range v.Batches {
		if b.Origin == s.Id {
			// Beside an error stands an empty text: only a node that no function made has such a batch or vertex.
			digest, _ := batch.Digest(b)
			s.send(s.sealed(cert.Origin(digest)), "")
		}
	}
	digest, _ := vertex.Digest(v, s.N)
	header, _ := post.Header(v, s.N)
	s.send(s.sealed(cert.Header(digest)), header)
	s.say(v, digest)
}

// say tells a vote for a vertex to all.
func (s *seat) say(v api.Vertex, digest string) {
	text, _ := post.Say(api.Say{Author: v.Author, Round: v.Round, Voter: s.Id, Digest: digest})
	s.send(s.sealed(cert.Vote(digest)), text)
}
