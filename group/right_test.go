package group_test

import (
	"bytes"
	"slices"
	"testing"

	"pyx/api"
	"pyx/group"
	"pyx/ratch"
	"pyx/tree"
)

// byHand is a group of n members, of which no path was laid yet, held by the one of the last leaf: put together by the layers below alone.
func byHand(t *testing.T, n int) api.Group {
	t.Helper()
	of, e := tree.New(0, publicOf(seedAt(0)))
	for i := 1; i < n && e == api.OK; i++ {
		of, _, e = tree.Add(of, i, publicOf(seedAt(i)))
	}
	if e != api.OK {
		t.Fatal(e)
	}
	g := api.Group{Id: []byte("hand"), Tree: of, Me: n - 1, Own: []api.Seed{{Node: 2 * (n - 1), Seed: seedAt(n - 1)}}, Log: counted(32, 9), Psk: shared()}
	return withSecrets(g, counted(32, 50), nil)
}

// isRight asks whether a group is right, and that it stays as it is.
func isRight(t *testing.T, g api.Group, want bool, what string) {
	t.Helper()
	was := told(g)
	if got := group.Right(g); got != want {
		t.Errorf("%s: %t, want %t: %s", what, got, want, was)
	}
	if told(g) != was {
		t.Errorf("%s: written into", what)
	}
}

// spoilt is a right group with something changed; want tells whether it is right then, too.
type spoilt struct {
	what string
	want bool
	do   func(g *api.Group)
}

// areSpoilt asks of each change, of a group that is right ahead of it, whether it is right behind it.
func areSpoilt(t *testing.T, g api.Group, l []spoilt) {
	t.Helper()
	isRight(t, g, true, "as it is")
	for _, x := range l {
		other := cloned(g)
		x.do(&other)
		isRight(t, other, x.want, x.what)
	}
}

// P14.1: groups that Create, Commit, Process and Join told; and such as were put together by hand, of up to 64 leaves.
func TestRight(t *testing.T) {
	g, _ := group.Create(nil, 0, seedAt(1), seedAt(2))
	isRight(t, g, true, "of one")
	for name, g := range busy(t).in {
		isRight(t, g, true, "busy")
		g.Me++
		isRight(t, g, false, "another leaf than "+string(rune('0'+name)))
	}
	for _, n := range []int{1, 2, 4, 8, 16, 32, 64} {
		isRight(t, byHand(t, n), true, "by hand")
	}
	isRight(t, byHand(t, 128), false, "of 128 leaves")
	isRight(t, api.Group{}, false, "nothing")
}

// P14.1: names, epochs, and logs, about their edges.
func TestRightNumbers(t *testing.T) {
	var l []spoilt
	for n, want := range map[int]bool{0: true, 1: true, 254: true, 255: true, 256: false, 257: false, 65536: false} {
		l = append(l, spoilt{"id", want, func(g *api.Group) { g.Id = make([]byte, n) }})
	}
	for n, want := range map[int]bool{0: true, 1: true, 1 << 32: true, lastEpoch - 1: true, lastEpoch: true, lastEpoch + 1: false, lastEpoch + 2: false, -1: false, least: false, greatest: false} {
		l = append(l, spoilt{"epoch", want, func(g *api.Group) { g.Epoch = n }})
	}
	for _, n := range wrongLengths {
		l = append(l, spoilt{"log", false, func(g *api.Group) { g.Log = make([]byte, n) }})
	}
	l = append(l, spoilt{"log", true, func(g *api.Group) { g.Log = make([]byte, 32) }})
	areSpoilt(t, busy(t).in[14], l)
}

// P14.1: a tree that isn't right, or that has too many leaves, or to which the chains and seeds don't belong.
func TestRightTree(t *testing.T) {
	areSpoilt(t, busy(t).in[21], []spoilt{
		{"no tree", false, func(g *api.Group) { g.Tree = nil }},
		{"a node less", false, func(g *api.Group) { g.Tree = g.Tree[:14] }},
		{"a node more", false, func(g *api.Group) { g.Tree = append(g.Tree, api.Node{}) }},
		{"half a tree", false, func(g *api.Group) { g.Tree = g.Tree[:7] }},
		{"twice a tree", false, func(g *api.Group) { g.Tree = append(g.Tree, make([]api.Node, 16)...) }},
		{"a name twice", false, func(g *api.Group) { g.Tree[0].Name = g.Tree[4].Name }},
		{"another name", true, func(g *api.Group) { g.Tree[0].Name = 99 }},
		{"a kind", false, func(g *api.Group) { g.Tree[0].Kind = api.Parent }},
		{"a half", false, func(g *api.Group) { g.Tree[0].Pub = g.Tree[0].Pub[:31] }},
		{"another half", true, func(g *api.Group) { g.Tree[0].Pub = seedAt(5) }},
		{"a half that is known", false, func(g *api.Group) { g.Tree[14].Pub = seedAt(5) }},
		{"a Hash", false, func(g *api.Group) { g.Tree[0].Hash = make([]byte, 31) }},
		{"no Hash", true, func(g *api.Group) { g.Tree[0].Hash = nil }},
		{"an Un that isn't below", false, func(g *api.Group) { g.Tree[11].Un = []int{0} }},
		{"an Un more", true, func(g *api.Group) { g.Tree[11].Un = []int{4, 7} }},
		{"an own one that isn't told", false, func(g *api.Group) { g.Tree[11].Un = nil }},
	})
}

// P14.1: a member that is no leaf, or another one, or seeds that aren't right for it.
func TestRightSeeds(t *testing.T) {
	var l []spoilt
	for _, me := range []int{-1, 0, 1, 2, 4, 7, 8, 64, least, greatest, 1 << 62, 1<<62 + 3} {
		l = append(l, spoilt{"me", false, func(g *api.Group) { g.Me = me }})
	}
	for k := range 3 {
		l = append(l,
			spoilt{"a seed less", false, func(g *api.Group) { g.Own = slices.Delete(g.Own, k, k+1) }},
			spoilt{"a seed twice", false, func(g *api.Group) { g.Own = slices.Insert(g.Own, k, g.Own[k]) }},
			spoilt{"another seed", false, func(g *api.Group) { g.Own[k].Seed[31] ^= 1 }},
			spoilt{"a shorter seed", false, func(g *api.Group) { g.Own[k].Seed = g.Own[k].Seed[:31] }},
			spoilt{"another node", false, func(g *api.Group) { g.Own[k].Node++ }})
	}
	l = append(l,
		spoilt{"no seeds", false, func(g *api.Group) { g.Own = nil }},
		spoilt{"turned round", false, func(g *api.Group) { slices.Reverse(g.Own) }},
		spoilt{"of no node", false, func(g *api.Group) { g.Own = append(g.Own, api.Seed{Node: 99, Seed: seedAt(9)}) }})
	areSpoilt(t, busy(t).in[20], l)
}

// P14.1: each of the epoch's secrets, of another length than 32.
func TestRightSecrets(t *testing.T) {
	var l []spoilt
	for k := range 5 {
		for _, n := range wrongLengths {
			l = append(l, spoilt{"a secret", false, func(g *api.Group) { *secrets(&g.Sec)[k] = make([]byte, n) }})
		}
		l = append(l, spoilt{"another secret", true, func(g *api.Group) { *secrets(&g.Sec)[k] = make([]byte, 32) }})
	}
	l = append(l, spoilt{"no secrets", false, func(g *api.Group) { g.Sec = api.Epoch{} }})
	areSpoilt(t, busy(t).in[20], l)
}

// secrets are where an epoch's secrets stand.
func secrets(e *api.Epoch) []*[]byte {
	return []*[]byte{&e.Init, &e.Send, &e.Export, &e.Confirm, &e.Resume}
}

// P14.1: chains, as many as leaves, Blank ones among them, each of them right.
func TestRightChains(t *testing.T) {
	l := []spoilt{
		{"no chains", false, func(g *api.Group) { g.Chain = nil }},
		{"a chain more", false, func(g *api.Group) { g.Chain = append(g.Chain, g.Chain[0]) }},
		{"a chain less", false, func(g *api.Group) { g.Chain = g.Chain[:7] }},
		{"as many chains as members", false, func(g *api.Group) { g.Chain = g.Chain[:6] }},
		{"as many chains as nodes", false, func(g *api.Group) { g.Chain = append(g.Chain, g.Chain[:7]...) }},
		{"another chain", true, func(g *api.Group) { g.Chain[0] = g.Chain[1] }},
	}
	for k := range 8 {
		l = append(l,
			spoilt{"a secret", false, func(g *api.Group) { g.Chain[k].Secret = make([]byte, 33) }},
			spoilt{"a place", false, func(g *api.Group) { g.Chain[k].Next = -1 }},
			spoilt{"the last place", true, func(g *api.Group) { g.Chain[k].Next = 1<<32 - 2 }},
			spoilt{"behind the last place", false, func(g *api.Group) { g.Chain[k].Next = 1<<32 - 1 }},
			spoilt{"spares", true, func(g *api.Group) { g.Chain[k], _, _ = ratch.Take(g.Chain[k], 40) }},
			spoilt{"a spare ahead", false, func(g *api.Group) {
				g.Chain[k], _, _ = ratch.Take(g.Chain[k], 40)
				g.Chain[k].Next = 39
			}},
			spoilt{"nothing", false, func(g *api.Group) { g.Chain[k] = api.Chain{} }})
	}
	areSpoilt(t, busy(t).in[20], l)
}

// manyPsk is n shared secrets, whose names rise up to a last one.
func manyPsk(n, last int) []api.Psk {
	var out []api.Psk
	for k := range n {
		out = append(out, api.Psk{Id: last - n + 1 + k, Secret: []byte{byte(k)}})
	}
	return out
}

// wrongPsk are rows of shared secrets that no group may have.
func wrongPsk() [][]api.Psk {
	one := func(id, n int) api.Psk { return api.Psk{Id: id, Secret: make([]byte, n)} }
	return [][]api.Psk{
		{one(-1, 1)}, {one(65536, 1)}, {one(least, 1)}, {one(greatest, 1)}, {one(3, 0)}, {one(3, 65)}, {one(3, 256)}, {{Id: 3}},
		{one(3, 1), one(3, 1)}, {one(4, 1), one(3, 1)}, {one(3, 1), one(4, 0)}, {one(3, 1), one(4, 65)}, {one(3, 1), one(4, 1), one(2, 1)}, {one(3, 1), one(65536, 1)}, {one(-1, 1), one(3, 1)},
		manyPsk(101, 101), manyPsk(101, 65535), manyPsk(256, 300), append(manyPsk(99, 99), one(99, 1)),
	}
}

// rightPsk are rows of shared secrets that a group may have.
func rightPsk() [][]api.Psk {
	one := func(id, n int) api.Psk { return api.Psk{Id: id, Secret: make([]byte, n)} }
	return [][]api.Psk{nil, {}, {one(0, 1)}, {one(65535, 1)}, {one(3, 1)}, {one(3, 64)}, {one(3, 63), one(4, 64)}, {one(0, 1), one(65535, 1)}, manyPsk(100, 99), manyPsk(100, 65535), manyPsk(99, 500), shared()}
}

// P14.1: shared secrets: how many, which names, and how long they are.
func TestRightPsk(t *testing.T) {
	var l []spoilt
	for _, p := range rightPsk() {
		l = append(l, spoilt{"shared secrets", true, func(g *api.Group) { g.Psk = p }})
	}
	for _, p := range wrongPsk() {
		l = append(l, spoilt{"shared secrets", false, func(g *api.Group) { g.Psk = p }})
	}
	areSpoilt(t, busy(t).in[20], l)
}

// P14.1: all else about a right group is free: nothing hangs on what an Id, a log, a secret or a chain tells.
func TestRightIsFree(t *testing.T) {
	ff := bytes.Repeat([]byte{0xff}, 32)
	areSpoilt(t, busy(t).in[12], []spoilt{
		{"id", true, func(g *api.Group) { g.Id = ff }},
		{"log", true, func(g *api.Group) { g.Log = ff }},
		{"secrets", true, func(g *api.Group) { g.Sec = api.Epoch{Init: ff, Send: ff, Export: ff, Confirm: ff, Resume: ff} }},
		{"a chain", true, func(g *api.Group) { g.Chain[3].Secret = ff }},
	})
}
