package group

import (
	"bytes"
	"slices"

	"pyx/api"
	"pyx/hash"
	"pyx/kdf"
	"pyx/path"
	"pyx/sched"
	"pyx/sig"
	"pyx/tree"
)

const byCommit = "commit" // what a commit's signature is labelled

// created is a group of one. All that may not be is refused by the calls below, with ErrArg each.
func created(id []byte, name int, seed, secret []byte) api.Group {
	g := api.Group{
		Id:   id,
		Tree: got(tree.New(name, got(sig.Public(seed)))),
		Own:  []api.Seed{{Seed: seed}},
		Log:  make([]byte, secretBytes),
	}
	return begun(g, secret, nil, contextOf(g))
}

// committed is a group behind a commit of its own, that commit, and what those are told who come by it.
func committed(g api.Group, l []api.Prop, seed, secret []byte) (api.Group, api.Commit, []api.Welcome) {
	need(len(seed) == secretBytes && len(secret) == secretBytes, api.ErrArg)
	need(g.Epoch != mostEpoch, api.ErrBig)
	t, used := applied(g, l, g.Me)
	made := got(path.Make(t, g.Me, seed, secret, g.Id))
	c := copiedCommit(api.Commit{Id: g.Id, Epoch: g.Epoch, From: g.Me, Prop: l, Path: made.Path})
	told := content(c)
	next, joiner := advanced(g, told, made, used)
	c.Proof = proofOf(next)
	c.Sign = got(sig.Sign(ownSeed(g), byCommit, slices.Concat(told, c.Proof)))
	return next, c, welcomes(g, t, c, joiner, secret)
}

// welcomes is what each one is told who comes by a commit of a group, of the tree ahead of its path.
func welcomes(g api.Group, t []api.Node, c api.Commit, joiner, secret []byte) []api.Welcome {
	var l []api.Welcome
	told := slices.Concat(joiner, proofOf(g))
	for k, p := range ofKind(c.Prop, api.PAdd) {
		once := got(kdf.Label(secret, "welcome", number(k, 2), secretBytes))
		half, b, e := sig.Wrap(p.Pub, once, g.Id, told)
		need(e == api.OK, e)
		l = append(l, api.Welcome{Tree: copiedTree(t), Log: bytes.Clone(g.Log), Com: copiedCommit(c), Box: api.Sealed{Half: half, B: b}})
	}
	return l
}

// processed is a group behind another member's commit.
func processed(g api.Group, c api.Commit) api.Group {
	need(bytes.Equal(c.Id, g.Id) && isOther(g, c.From), api.ErrArg)
	need(c.Epoch >= g.Epoch, api.ErrStale)
	need(c.Epoch <= g.Epoch, api.ErrState)
	need(c.Epoch != mostEpoch, api.ErrBig)
	need(fits(c), api.ErrArg)
	told := content(c)
	signer := g.Tree[2*c.From].Pub
	need(sig.Verify(signer, byCommit, slices.Concat(told, c.Proof), c.Sign) == api.OK, api.ErrKey)
	t, used := applied(g, c.Prop, c.From)
	need(!isRemoved(g, c.Prop), api.ErrState)
	made := got(path.Take(t, c.From, g.Me, seedsIn(t, g.Own), g.Id, c.Path))
	next, _ := advanced(g, told, made, used)
	need(bytes.Equal(c.Proof, proofOf(next)), api.ErrKey)
	return next
}

// isRemoved: does the member's own leaf go by what is proposed? Its name may come again, but as another member's.
func isRemoved(g api.Group, l []api.Prop) bool {
	return slices.ContainsFunc(ofKind(l, api.PRemove), func(p api.Prop) bool {
		i, is := tree.Find(g.Tree, p.Name)
		return is && i == g.Me
	})
}

// seedsIn is those seeds whose nodes a tree has, and which aren't Blank there.
func seedsIn(t []api.Node, own []api.Seed) []api.Seed {
	var out []api.Seed
	for _, s := range own {
		if 0 <= s.Node && s.Node < len(t) && t[s.Node].Kind != api.Blank {
			out = append(out, s)
		}
	}
	return out
}

// joined is the group of one who comes by a welcome.
func joined(w api.Welcome, name int, seed []byte, l []api.Psk) api.Group {
	c := w.Com
	need(len(seed) == secretBytes && arePsk(l) && isWelcome(w), api.ErrArg)
	me, is := tree.Find(w.Tree, name)
	need(is, api.ErrNone)
	need(bytes.Equal(w.Tree[2*me].Pub, got(sig.Public(seed))), api.ErrKey)
	own := []api.Seed{{Node: 2 * me, Seed: seed}}
	made := got(path.Take(w.Tree, c.From, me, own, c.Id, c.Path))
	joiner, proof := unboxed(w, seed)
	used := secretsOf(c.Prop, l)
	need(hash.Held(made.Tree) && path.Right(made.Tree, me, made.Own), api.ErrKey)
	log := got(sched.Log(w.Log, proof, content(c)))
	g := api.Group{Id: c.Id, Epoch: c.Epoch + 1, Tree: made.Tree, Me: me, Own: made.Own, Log: log, Psk: l}
	g = begun(g, joiner, used, contextOf(g))
	need(bytes.Equal(c.Proof, proofOf(g)), api.ErrKey)
	return g
}

// isWelcome: are the parts of a welcome such as they may be? Its box is told by what comes out of it.
func isWelcome(w api.Welcome) bool {
	c := w.Com
	return isTree(w.Tree) && len(w.Log) == secretBytes && 0 <= c.Epoch && c.Epoch < mostEpoch &&
		len(c.Id) <= mostId && 0 <= c.From && c.From < 1<<16 && fits(c)
}

// unboxed is what a welcome's box tells: the joiner's secret, and what proved the epoch ahead.
func unboxed(w api.Welcome, seed []byte) (joiner, proof []byte) {
	b, e := sig.Unwrap(seed, w.Box.Half, w.Com.Id, w.Box.B)
	// The seed has its bytes: it is the half that hasn't, and that was told by another one.
	need(e != api.ErrArg, api.ErrKey)
	need(e == api.OK, e)
	need(len(b) == 2*secretBytes, api.ErrForm)
	return b[:secretBytes], b[secretBytes:]
}

// ownSeed is the seed of the member's own leaf; a group that isn't right may lack it.
func ownSeed(g api.Group) []byte {
	k := slices.IndexFunc(g.Own, func(s api.Seed) bool { return s.Node == 2*g.Me })
	need(k >= 0, api.ErrArg)
	return g.Own[k].Seed
}
