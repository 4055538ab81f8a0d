package group

import (
	"slices"

	"pyx/api"
	"pyx/ratch"
	"pyx/seal"
)

const mostText = 10000 // bytes that are sent at once

// sent is a group that sent something, and the message.
func sent(g api.Group, b []byte) (api.Group, api.Msg) {
	need(len(b) <= mostText, api.ErrBig)
	g, lock := taken(g, g.Me, chainOf(g, g.Me).Next)
	box := got(seal.Seal(lock.Key, lock.Nonce, belonging(g), b))
	return g, api.Msg{Epoch: g.Epoch, From: g.Me, At: lock.At, Box: box}
}

// opened is a group that opened a message, and what that tells.
func opened(g api.Group, m api.Msg) (api.Group, []byte) {
	need(m.Epoch == g.Epoch, api.ErrStale)
	need(isOther(g, m.From), api.ErrArg)
	g, lock := taken(g, m.From, m.At)
	return g, got(seal.Open(lock.Key, lock.Nonce, belonging(g), m.Box))
}

// taken is a group in which the lock of a place of a leaf's chain is used up, and that lock. The chains are another row: what is done with the lock may fail, and then all is as it was.
func taken(g api.Group, i, at int) (api.Group, api.Lock) {
	c, lock, e := ratch.Take(chainOf(g, i), at)
	need(e == api.OK, e)
	g.Chain = slices.Clone(g.Chain)
	g.Chain[i] = c
	return g, lock
}

// chainOf is a leaf's chain; a group that isn't right may lack it.
func chainOf(g api.Group, i int) api.Chain {
	need(0 <= i && i < len(g.Chain), api.ErrArg)
	return g.Chain[i]
}

// belonging is what a group's messages belong to.
func belonging(g api.Group) []byte { return slices.Concat(g.Id, number(g.Epoch, epochBytes)) }
