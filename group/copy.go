package group

import (
	"bytes"
	"slices"

	"pyx/api"
)

// Copies share no memory with what they are copies of.

// copied is a copy of a group.
func copied(g api.Group) api.Group {
	g.Id, g.Log = bytes.Clone(g.Id), bytes.Clone(g.Log)
	g.Tree = copiedTree(g.Tree)
	g.Own = each(g.Own, func(s api.Seed) api.Seed { return api.Seed{Node: s.Node, Seed: bytes.Clone(s.Seed)} })
	g.Sec = api.Epoch{
		Init:    bytes.Clone(g.Sec.Init),
		Send:    bytes.Clone(g.Sec.Send),
		Export:  bytes.Clone(g.Sec.Export),
		Confirm: bytes.Clone(g.Sec.Confirm),
		Resume:  bytes.Clone(g.Sec.Resume),
	}
	g.Chain = each(g.Chain, func(c api.Chain) api.Chain {
		return api.Chain{Next: c.Next, Secret: bytes.Clone(c.Secret), Spare: each(c.Spare, copiedLock)}
	})
	g.Psk = each(g.Psk, func(p api.Psk) api.Psk { return api.Psk{Id: p.Id, Secret: bytes.Clone(p.Secret)} })
	return g
}

// copiedTree is a copy of a tree.
func copiedTree(t []api.Node) []api.Node {
	return each(t, func(n api.Node) api.Node {
		n.Pub, n.Un, n.Hash = bytes.Clone(n.Pub), slices.Clone(n.Un), bytes.Clone(n.Hash)
		return n
	})
}

// copiedLock is a copy of a lock.
func copiedLock(l api.Lock) api.Lock {
	return api.Lock{At: l.At, Key: bytes.Clone(l.Key), Nonce: bytes.Clone(l.Nonce)}
}

// copiedCommit is a copy of a commit.
func copiedCommit(c api.Commit) api.Commit {
	c.Id, c.Proof, c.Sign = bytes.Clone(c.Id), bytes.Clone(c.Proof), bytes.Clone(c.Sign)
	c.Prop = each(c.Prop, func(p api.Prop) api.Prop {
		p.Pub = bytes.Clone(p.Pub)
		return p
	})
	c.Path = api.Path{Pub: bytes.Clone(c.Path.Pub), Step: each(c.Path.Step, copiedStep)}
	return c
}

// copiedStep is a copy of a step of a path.
func copiedStep(s api.Step) api.Step {
	return api.Step{Pub: bytes.Clone(s.Pub), For: each(s.For, func(b api.Sealed) api.Sealed {
		return api.Sealed{Half: bytes.Clone(b.Half), B: bytes.Clone(b.B)}
	})}
}

// each is copies of all, each made by a function.
func each[T any](l []T, one func(T) T) []T {
	out := slices.Clone(l)
	for k, x := range l {
		out[k] = one(x)
	}
	return out
}
