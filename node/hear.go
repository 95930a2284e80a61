package node

import (
	"slices"

	"selvedge/api"
	"selvedge/book"
	"selvedge/cert"
	"selvedge/coin"
	"selvedge/copies"
	"selvedge/dag"
	"selvedge/post"
	"selvedge/seats"
	"selvedge/vertex"
	"selvedge/vote"
)

// hear does what a text asks.
func (s *seat) hear(b []api.Seal, text string) api.Errno {
	switch post.Kind(text) {
	case 'h':
		return s.hearHeader(b, text)
	case 'y':
		return s.hearSay(b, text)
	case 'c':
		return s.hearProof(b, text)
	}
	return api.ErrForm
}

// hearHeader votes for a vertex, if it is as it should be.
func (s *seat) hearHeader(b []api.Seal, text string) api.Errno {
	v, e := post.TakeHeader(text, s.N)
	if e != api.OK {
		return api.ErrForm
	}
	if cert.Sealed(s.N, b, v) != api.OK || !coin.Fits(s.Tape, s.N, v) {
		return api.ErrSeal
	}
	if len(dag.Missing(s.D, v)) > 0 {
		return api.ErrPart
	}
	digest, _ := vertex.Digest(v, s.N)
	ballot := api.Ballot{Author: v.Author, Round: v.Round, Digest: digest}
	if _, e := vote.Give(s.Votes, s.D.Low, ballot); e != api.OK {
		return e
	}
	if _, given := vote.Find(s.Votes, v.Author, v.Round); !given {
		if e := s.writeBallot(ballot); e != api.OK {
			return e
		}
	}
	s.say(v, digest)
	return api.OK
}

// hearSay counts a vote for the seat's own vertex.
func (s *seat) hearSay(b []api.Seal, text string) api.Errno {
	say, e := post.TakeSay(text)
	if e != api.OK {
		return api.ErrForm
	}
	if !s.Has || say.Author != s.Id || say.Round != s.Mine.Round {
		return api.ErrNone
	}
	digest, e := vertex.Digest(s.Mine, s.N)
	if e != api.OK || say.Digest != digest {
		return api.ErrNone
	}
	if say.Voter > s.N {
		return api.ErrArg
	}
	if !book.Has(b, api.Seal{Id: say.Voter, Text: cert.Vote(digest)}) {
		return api.ErrSeal
	}
	s.Set, _ = seats.Put(s.Set, say.Voter)
	if seats.Count(s.Set) < seats.Quorum(s.N) {
		return api.OK
	}
	return s.admit(api.Proof{V: s.Mine, Set: s.Set})
}

// hearProof admits what a quorum has voted for.
func (s *seat) hearProof(b []api.Seal, text string) api.Errno {
	p, e := post.TakeProof(text, s.N)
	if e != api.OK {
		return api.ErrForm
	}
	if e := cert.Check(s.N, b, p); e != api.OK {
		return e
	}
	return s.admit(p)
}

// mayAdd tells what adding a proof's vertex would lead to.
func (s *seat) mayAdd(p api.Proof) api.Errno {
	_, e := dag.Add(s.D, p.V)
	return e
}

// admit takes a proof in, and those that have waited for it, or lets it wait for its parents.
func (s *seat) admit(p api.Proof) api.Errno {
	switch e := s.mayAdd(p); e {
	case api.OK:
	case api.ErrPart:
		s.await(p)
		return e
	default:
		return e
	}
	if e := s.writeProof(p); e != api.OK {
		return e
	}
	return s.release()
}

// await lets a proof wait, if there is room, and it doesn't yet.
func (s *seat) await(p api.Proof) {
	waits := func(q api.Proof) bool { return vertex.Same(q.V, p.V) }
	if len(s.Wait) < api.MaxWait && !slices.ContainsFunc(s.Wait, waits) {
		s.Wait = append(s.Wait, copies.Proof(p))
	}
}

// writeProof writes a proof down, and tells it to all.
func (s *seat) writeProof(p api.Proof) api.Errno {
	rec, e := post.Proof(p, s.N)
	if e != api.OK {
		return e
	}
	if e := s.write(rec); e != api.OK {
		return e
	}
	s.send(api.Seal{}, rec)
	return api.OK
}

// release ends the waiting of all proofs whose parents are there by now.
func (s *seat) release() api.Errno {
	due := func(p api.Proof) bool { return s.mayAdd(p) != api.ErrPart }
	for {
		at := slices.IndexFunc(s.Wait, due)
		if at < 0 {
			return api.OK
		}
		p := s.Wait[at]
		s.Wait = slices.Delete(s.Wait, at, at+1)
		if s.mayAdd(p) != api.OK {
			continue
		}
		// One that has no encoding, as no function makes it wait, is passed over.
		if e := s.writeProof(p); s.Down {
			return e
		}
	}
}
