package group

import (
	"pyx/api"
	"pyx/hash"
	"pyx/ratch"
	"pyx/sched"
)

const (
	epochBytes = 6         // bytes that an epoch's number is told in
	mostEpoch  = 1<<48 - 2 // the last epoch
)

// advanced is a group in the next epoch, behind a content and what was made of its path, and the joiner's secret.
func advanced(g api.Group, told []byte, made api.Made, used [][]byte) (api.Group, []byte) {
	ahead := g.Sec.Init
	g.Log = got(sched.Log(g.Log, proofOf(g), told))
	g.Epoch++
	g.Tree, g.Own = made.Tree, made.Own
	context := contextOf(g)
	joiner := got(sched.Joiner(ahead, made.Last, context))
	return begun(g, joiner, used, context), joiner
}

// begun is a group at the beginning of an epoch, with the secrets that come of the joiner's.
func begun(g api.Group, joiner []byte, used [][]byte, context []byte) api.Group {
	g.Sec = got(sched.Epoch(joiner, sched.Shared(used), context))
	g.Chain = nil
	n := leaves(g.Tree)
	for i := range n {
		g.Chain = append(g.Chain, got(ratch.Start(g.Sec.Send, n, i)))
	}
	return g
}

// contextOf is what a group's epoch belongs to.
func contextOf(g api.Group) []byte {
	root := len(g.Tree) / 2
	return got(sched.Context(g.Id, g.Epoch, got(hash.Tree(g.Tree, root)), g.Log))
}

// proofOf is what proves a group's epoch.
func proofOf(g api.Group) []byte { return got(sched.Proof(g.Sec, g.Log)) }
