package world_test

import (
	"testing"

	"selvedge/api"
	"selvedge/batch"
	"selvedge/book"
	"selvedge/cert"
	"selvedge/coin"
	"selvedge/cut"
	"selvedge/dag"
	"selvedge/digits"
	"selvedge/gauss"
	"selvedge/lane"
	"selvedge/node"
	"selvedge/order"
	"selvedge/paper"
	"selvedge/post"
	"selvedge/seats"
	"selvedge/sha"
	"selvedge/share"
	"selvedge/tusk"
	"selvedge/vertex"
	"selvedge/vote"
	"selvedge/world"
)

// The signatures that the chapters list, layer by layer: another one does not compile.
var (
	_ func(uint64) string                                           = digits.Num
	_ func(string) (uint64, string, api.Errno)                      = digits.TakeNum
	_ func(string) string                                           = digits.Text
	_ func(string, int) (string, string, api.Errno)                 = digits.TakeText
	_ func([]string) string                                         = digits.Row
	_ func(string, int, int) ([]string, string, api.Errno)          = digits.TakeRow
	_ func(string) string                                           = sha.Pad
	_ func() [64]uint32                                             = sha.Words
	_ func() [8]uint32                                              = sha.First
	_ func([8]uint32, string) ([8]uint32, api.Errno)                = sha.Block
	_ func(string) string                                           = sha.Sum
	_ func(string) string                                           = sha.Hex
	_ func(api.Elem) bool                                           = gauss.May
	_ func(uint64) api.Elem                                         = gauss.Of
	_ func(api.Elem, api.Elem) api.Elem                             = gauss.Add
	_ func(api.Elem, api.Elem) api.Elem                             = gauss.Sub
	_ func(api.Elem, api.Elem) api.Elem                             = gauss.Mul
	_ func(api.Elem, uint64) api.Elem                               = gauss.Pow
	_ func(api.Elem) (api.Elem, api.Errno)                          = gauss.Inv
	_ func(api.Elem) int                                            = gauss.Norm
	_ func([]api.Elem, api.Elem) api.Elem                           = share.Eval
	_ func([]api.Elem, int) (api.Share, api.Errno)                  = share.Of
	_ func([]api.Share) (api.Elem, api.Errno)                       = share.Open
	_ func([]api.Share, int) (api.Elem, api.Errno)                  = share.Weight
	_ func(int) bool                                                = seats.May
	_ func(int) int                                                 = seats.Faults
	_ func(int) int                                                 = seats.Quorum
	_ func(int) int                                                 = seats.Weak
	_ func(uint64, int) (uint64, api.Errno)                         = seats.Put
	_ func(uint64, int) bool                                        = seats.Has
	_ func(uint64) int                                              = seats.Count
	_ func(uint64) []int                                            = seats.List
	_ func([]int) (uint64, api.Errno)                               = seats.Of
	_ func(uint64, int) bool                                        = seats.Within
	_ func([]api.Seal) bool                                         = book.Right
	_ func([]api.Seal, api.Seal) []api.Seal                         = book.Put
	_ func([]api.Seal, api.Seal) bool                               = book.Has
	_ func([]api.Seal, string) uint64                               = book.By
	_ func([]api.Seal, uint64, string) bool                         = book.All
	_ func(api.Batch) bool                                          = batch.May
	_ func(api.Batch) (string, api.Errno)                           = batch.Bytes
	_ func(string) (api.Batch, api.Errno)                           = batch.Take
	_ func(api.Batch) (string, api.Errno)                           = batch.Digest
	_ func(api.Batch, api.Batch) bool                               = batch.Same
	_ func(api.Vertex, int) bool                                    = vertex.May
	_ func(api.Vertex, int) (string, api.Errno)                     = vertex.Bytes
	_ func(string, int) (api.Vertex, api.Errno)                     = vertex.Take
	_ func(api.Vertex, int) (string, api.Errno)                     = vertex.Digest
	_ func(api.Vertex, api.Vertex) bool                             = vertex.Same
	_ func(int) int                                                 = vertex.Wave
	_ func(int) bool                                                = vertex.Third
	_ func([]api.Ballot) bool                                       = vote.Right
	_ func([]api.Ballot, int, int) (string, bool)                   = vote.Find
	_ func([]api.Ballot, int, api.Ballot) ([]api.Ballot, api.Errno) = vote.Give
	_ func([]api.Ballot, int) []api.Ballot                          = vote.Floor
	_ func(string) string                                           = cert.Header
	_ func(string) string                                           = cert.Vote
	_ func(string) string                                           = cert.Origin
	_ func(int, []api.Seal, api.Vertex) api.Errno                   = cert.Sealed
	_ func(int, []api.Seal, api.Proof) api.Errno                    = cert.Check
	_ func(api.Proof, int) (string, api.Errno)                      = cert.Bytes
	_ func(string, int) (api.Proof, api.Errno)                      = cert.Take
	_ func(api.Proof, api.Proof) bool                               = cert.Same
)

// The same, from the DAG on.
var (
	_ func(api.Dag) bool                                          = dag.Right
	_ func(api.Dag, api.Vertex) (api.Dag, api.Errno)              = dag.Add
	_ func(api.Dag, int) api.Dag                                  = dag.Drop
	_ func(api.Dag, int) []api.Entry                              = dag.Round
	_ func(api.Dag, string) (api.Entry, bool)                     = dag.Find
	_ func(api.Dag, int, int) (api.Entry, bool)                   = dag.By
	_ func(api.Dag, api.Vertex) []string                          = dag.Missing
	_ func(api.Dag, string, int) []api.Entry                      = dag.Past
	_ func(api.Dag, string, string) bool                          = dag.Path
	_ func(api.Dag, api.Dag) bool                                 = dag.Same
	_ func(string, int, int) []api.Elem                           = coin.Deal
	_ func(string, int, int, int) api.Elem                        = coin.Own
	_ func(string, int, api.Vertex) bool                          = coin.Fits
	_ func(api.Elem, int) int                                     = coin.Leader
	_ func(api.Dag, int) (int, api.Errno)                         = coin.Reveal
	_ func(api.Dag, int) (api.Entry, api.Errno)                   = tusk.First
	_ func(api.Dag, api.Entry) int                                = tusk.Support
	_ func(api.Dag, int) (api.Entry, api.Errno)                   = tusk.Decided
	_ func(api.Dag) int                                           = tusk.Top
	_ func(api.Dag, int) ([]api.Entry, int)                       = tusk.Chain
	_ func(api.Dag, api.Entry, []string) ([]api.Entry, []string)  = order.Behind
	_ func(api.Dag, int, []string) ([][]api.Entry, int, []string) = order.All
	_ func([]api.Mark) bool                                       = order.Right
	_ func([]api.Mark, int, int) bool                             = order.Fresh
	_ func([]api.Mark, int, int) []api.Mark                       = order.Note
	_ func(api.Block) string                                      = cut.Digest
	_ func([]string, string) bool                                 = cut.Fits
	_ func(api.Cutter, []string) (api.Cutter, []api.Block)        = cut.Feed
	_ func(api.Cutter) (api.Cutter, []api.Block)                  = cut.Flush
	_ func([]api.Block, int, string) bool                         = cut.Chained
	_ func(int) (api.Lane, api.Errno)                             = lane.New
	_ func(api.Lane) bool                                         = lane.Right
	_ func(api.Lane) bool                                         = lane.Full
	_ func(api.Lane, string) (api.Lane, api.Errno)                = lane.Submit
	_ func(api.Lane) (api.Lane, api.Errno)                        = lane.Seal
	_ func(api.Lane, int) []api.Batch                             = lane.Pick
	_ func(api.Lane, int) api.Lane                                = lane.Ordered
	_ func(api.Lane, api.Lane) bool                               = lane.Same
	_ func(string) (string, api.Errno)                            = paper.Frame
	_ func(string) ([]string, int)                                = paper.Read
	_ func(api.Paper, string) (api.Paper, api.Errno)              = paper.Append
	_ func(api.Paper) (api.Paper, api.Errno)                      = paper.Sync
	_ func(api.Paper, int) api.Paper                              = paper.Crash
	_ func(api.Paper, int) api.Paper                              = paper.Arm
	_ func(api.Paper) []string                                    = paper.Records
	_ func(api.Vertex, int) (string, api.Errno)                   = post.Header
	_ func(api.Proof, int) (string, api.Errno)                    = post.Proof
	_ func(api.Say) (string, api.Errno)                           = post.Say
	_ func(api.Ballot) (string, api.Errno)                        = post.Ballot
	_ func(string) string                                         = post.Tx
	_ func(string) byte                                           = post.Kind
	_ func(string, int) (api.Vertex, api.Errno)                   = post.TakeHeader
	_ func(string, int) (api.Proof, api.Errno)                    = post.TakeProof
	_ func(string) (api.Say, api.Errno)                           = post.TakeSay
	_ func(string) (api.Ballot, api.Errno)                        = post.TakeBallot
	_ func(string) (string, api.Errno)                            = post.TakeTx
	_ func(int, int, string) (api.Node, api.Errno)                = node.New
	_ func(int, int, string, api.Paper) (api.Node, api.Errno)     = node.Start
	_ func(api.Node, string) (api.Node, api.Errno)                = node.Submit
	_ func(api.Node) (api.Node, api.Errno)                        = node.Seal
	_ func(api.Node) (api.Node, api.Errno)                        = node.Propose
	_ func(api.Node, []api.Seal, string) (api.Node, api.Errno)    = node.Hear
	_ func(api.Node) (api.Node, []api.Send, api.Errno)            = node.Sync
	_ func(api.Node, int) (api.Node, api.Errno)                   = node.Crash
	_ func(api.Node, int) api.Node                                = node.Arm
	_ func(int, int, string) (api.World, api.Errno)               = world.New
	_ func(api.World, api.Act) (api.World, api.Errno)             = world.Do
	_ func(api.World, int) api.World                              = world.Calm
)

// TestNumbers: the limits, the errors and the kinds of acts have the numbers that the document lists.
func TestNumbers(t *testing.T) {
	limits := []int{api.MaxBlock, api.MaxBytes, api.Window, api.Depth, api.MaxTx, api.MaxTxs, api.MaxSeq, api.MaxRound, api.MaxBatches, api.MaxText, api.Prime, api.MaxPaper, api.MaxWait, api.MaxSeats, api.MaxPool}
	for i, want := range []int{6, 128, 8, 12, 48, 4, 1073741824, 1048576, 4, 65536, 10007, 1048576, 16, 64, 10000} {
		if limits[i] != want {
			t.Errorf("limit %d: %d, not %d", i, limits[i], want)
		}
	}
	errors := []api.Errno{api.OK, api.ErrArg, api.ErrMore, api.ErrForm, api.ErrBig, api.ErrFull, api.ErrDead, api.ErrNone, api.ErrThere, api.ErrOld, api.ErrSeal, api.ErrPart, api.ErrBusy, api.ErrOther}
	for want, e := range errors {
		if int(e) != want {
			t.Errorf("error %d: %d", want, e)
		}
	}
	kinds := []int{api.WSubmit, api.WSeal, api.WPropose, api.WDeliver, api.WRaw, api.WSync, api.WCrash, api.WArm, api.WForge}
	for i, kind := range kinds {
		if kind != i+1 {
			t.Errorf("kind %d: %d", i+1, kind)
		}
	}
}
