package group_test

import (
	"bytes"
	"slices"
	"testing"

	"pyx/api"
	"pyx/group"
	"pyx/hash"
	"pyx/path"
	"pyx/tree"
)

// guest is one who comes: a welcome, a name, a seed and shared secrets.
type guest struct {
	W    api.Welcome
	Name int
	Seed []byte
	Psk  []api.Psk
}

// joinOf is what Join is to answer, of a welcome that is right.
func joinOf(x guest) api.Group {
	c, me := x.W.Com, leafOf(x.W.Tree, x.Name)
	m, e := path.Take(x.W.Tree, c.From, me, []api.Seed{{Node: 2 * me, Seed: x.Seed}}, c.Id, c.Path)
	if e != api.OK {
		panic(e)
	}
	both := openBox(x.Seed, x.W.Box, c.Id)
	g := api.Group{Id: c.Id, Epoch: c.Epoch + 1, Tree: m.Tree, Me: me, Own: m.Own, Psk: x.Psk}
	g.Log = sumOf(rowOf(x.W.Log), rowOf(both[32:]), rowOf(contentOf(c)))
	return withSecrets(g, both[:32], usedOf(c.Prop, x.Psk))
}

// openBox is what was wrapped, without a look at its tag: the same stream that locks it unlocks it.
func openBox(seed []byte, box api.Sealed, info []byte) []byte {
	secret := tagOf(publicOf(seed), box.Half)
	key, nonce := labelOf(secret, "key", info, 32), labelOf(secret, "nonce", info, 12)
	n := len(box.B) - 32
	return sealOf(key, nonce, nil, box.B[:n])[:n]
}

// usedOf is the secrets that are taken in.
func usedOf(l []api.Prop, psk []api.Psk) [][]byte {
	var out [][]byte
	for _, p := range l {
		for _, x := range psk {
			if p.Kind == api.PPsk && x.Id == p.Name {
				out = append(out, x.Secret)
			}
		}
	}
	return out
}

// isJoined asks that one joins, as the model has it, that the group is right, and that nothing is written into.
func isJoined(t *testing.T, x guest) api.Group {
	t.Helper()
	was := told(x)
	got, e := group.Join(x.W, x.Name, x.Seed, x.Psk)
	if want := joinOf(x); e != api.OK || told(got) != told(want) || !group.Right(got) {
		t.Errorf("error %d:\n%s\n%s", e, told(got), told(want))
	}
	if !bytes.Equal(proofOf(got), x.W.Com.Proof) || told(x) != was {
		t.Errorf("proof %x, want %x; or written into", proofOf(got), x.W.Com.Proof)
	}
	return got
}

// isNotJoined asks that one doesn't join, for that error, and that nothing is told beside it.
func isNotJoined(t *testing.T, x guest, want api.Errno, what ...any) {
	t.Helper()
	was := told(x)
	if got, e := group.Join(x.W, x.Name, x.Seed, x.Psk); e != want || told(got) != told(api.Group{}) {
		t.Errorf("%v: error %d, want %d; %s", what, e, want, told(got))
	}
	if told(x) != was {
		t.Errorf("%v: written into", what)
	}
}

// someGuest is one of two who come by a commit of 12's: of leaf 1, in a tree of eight leaves.
func someGuest(t *testing.T) (guest, outcome) {
	t.Helper()
	c := busy(t)
	o := commit(c.in[12], []api.Prop{take(9), add(30), take(4), remove(15), add(31)}, seedAt(1), seedAt(2))
	if o.E != api.OK || leafOf(o.Next.Tree, 30) != 1 || len(o.Com.Path.Step) != 3 {
		t.Fatal(told(o))
	}
	return guest{o.Welcomes[0], 30, beforehand(30), shared()}, o
}

// P14.4: who comes by commits of all kinds, by each member; and has all that the others have.
func TestJoin(t *testing.T) {
	c := busy(t)
	for _, by := range c.names() {
		for _, l := range [][]api.Prop{{add(30)}, {add(0), add(65535)}, {add(30), add(31), add(32), add(33)}, {take(9), add(30), take(0), take(9)}, {add(30), remove(20), add(20)}, {add(15), remove(14), remove(15), remove(16), remove(21), add(70)}} {
			o := commit(c.in[by], l, seedAt(by), seedAt(by+100))
			if o.E == api.ErrState {
				continue
			}
			for k, p := range slices.DeleteFunc(slices.Clone(l), func(p api.Prop) bool { return p.Kind != api.PAdd }) {
				got := isJoined(t, guest{o.Welcomes[k], p.Name, beforehand(p.Name), shared()})
				if got.Epoch != o.Next.Epoch || told(got.Sec) != told(o.Next.Sec) || told(got.Tree) != told(o.Next.Tree) || told(got.Log) != told(o.Next.Log) || told(got.Chain) != told(o.Next.Chain) {
					t.Errorf("by %d, %s: %d has something else", by, told(l), p.Name)
				}
				if got.Me != leafOf(o.Next.Tree, p.Name) || told(got.Psk) != told(shared()) {
					t.Errorf("by %d, %s: %d is %d", by, told(l), p.Name, got.Me)
				}
			}
		}
	}
}

// P14.4: shared secrets that aren't taken in needn't be those of the others; any that a group may have are the group's.
func TestJoinPsk(t *testing.T) {
	c := newCrowd(t, []byte("psk"), 1, 2)
	plain := commit(c.in[2], []api.Prop{add(3)}, seedAt(1), seedAt(2)).Welcomes[0]
	for _, l := range rightPsk() {
		if got := isJoined(t, guest{plain, 3, beforehand(3), l}); told(got.Psk) != told(l) {
			t.Errorf("%s; want %s", told(got.Psk), told(l))
		}
	}
	for _, l := range wrongPsk() {
		isNotJoined(t, guest{plain, 3, beforehand(3), l}, api.ErrArg, told(l))
	}
	taken := commit(c.in[2], []api.Prop{add(3), take(9), take(4)}, seedAt(1), seedAt(2)).Welcomes[0]
	nine, four := shared()[2], shared()[1]
	isJoined(t, guest{taken, 3, beforehand(3), []api.Psk{four, nine}})
	isNotJoined(t, guest{taken, 3, beforehand(3), []api.Psk{nine}}, api.ErrNone)
	isNotJoined(t, guest{taken, 3, beforehand(3), []api.Psk{four}}, api.ErrNone)
	isNotJoined(t, guest{taken, 3, beforehand(3), nil}, api.ErrNone)
	isNotJoined(t, guest{taken, 3, beforehand(3), []api.Psk{{Id: 4, Secret: nine.Secret}, {Id: 9, Secret: four.Secret}}}, api.ErrKey)
}

// flaw is what may be wrong with a guest, and the error that tells it. Those of a lesser rank are told first.
type flaw struct {
	what string
	rank int
	e    api.Errno
	do   func(x *guest)
}

// badArgs are flaws that are told by ErrArg, but those of the commit's parts.
func badArgs() []flaw {
	out := []flaw{
		{"psk", 0, api.ErrArg, func(x *guest) { x.Psk = wrongPsk()[0] }},
		{"no tree", 0, api.ErrArg, func(x *guest) { x.W.Tree = nil }},
		{"a tree", 0, api.ErrArg, func(x *guest) { x.W.Tree[0].Hash = make([]byte, 31) }},
		{"a tree of a name twice", 0, api.ErrArg, func(x *guest) { x.W.Tree[0].Name = 30 }},
		{"a tree of 128 leaves", 0, api.ErrArg, func(x *guest) { x.W.Tree = append(x.W.Tree, make([]api.Node, 255-len(x.W.Tree))...) }},
	}
	for _, n := range wrongLengths {
		out = append(out,
			flaw{"a seed", 0, api.ErrArg, func(x *guest) { x.Seed = make([]byte, n) }},
			flaw{"a log", 0, api.ErrArg, func(x *guest) { x.W.Log = make([]byte, n) }})
	}
	for _, n := range []int{-1, lastEpoch, lastEpoch + 1, lastEpoch + 2, least, greatest} {
		out = append(out, flaw{"an epoch", 0, api.ErrArg, func(x *guest) { x.W.Com.Epoch = n }})
	}
	for _, n := range []int{-1, 65536, 65538, least, greatest, 1 << 62, 1<<62 + 2} {
		out = append(out, flaw{"from", 0, api.ErrArg, func(x *guest) { x.W.Com.From = n }})
	}
	for _, n := range []int{256, 257, 1000} {
		out = append(out, flaw{"an id", 0, api.ErrArg, func(x *guest) { x.W.Com.Id = make([]byte, n) }})
	}
	return out
}

// badParts are flaws of the commit's parts: those that Process refuses.
func badParts() []flaw {
	var out []flaw
	for _, f := range parts() {
		out = append(out, flaw{f.what, 0, f.e, func(x *guest) {
			y := trial{c: x.W.Com}
			f.do(&y)
			x.W.Com = y.c
		}})
	}
	return out
}

// rewrapped is the welcome's box of other bytes.
func rewrapped(x *guest, b []byte) {
	x.W.Box = wrapOf(publicOf(beforehand(30)), seedAt(77), x.W.Com.Id, b)
}

// badKeys are flaws that are told behind those.
func badKeys() []flaw {
	return []flaw{
		{"no name", 1, api.ErrNone, func(x *guest) { x.Name = 32 }},
		{"no name of a Blank leaf", 1, api.ErrNone, func(x *guest) { x.Name = 0 }},
		{"no name at all", 1, api.ErrNone, func(x *guest) { x.Name = -1 }},
		{"another name", 2, api.ErrKey, func(x *guest) { x.Name = 31 }},
		{"another seed", 2, api.ErrKey, func(x *guest) { x.Seed = beforehand(31) }},
		{"from no leaf", 3, api.ErrNone, func(x *guest) { x.W.Com.From = 8 }},
		{"from a Blank leaf", 3, api.ErrNone, func(x *guest) { x.W.Com.From = 65535 }},
		{"from me", 3, api.ErrArg, func(x *guest) { x.W.Com.From = 1 }},
		{"a step less", 3, api.ErrForm, func(x *guest) { x.W.Com.Path.Step = x.W.Com.Path.Step[:2] }},
		{"from another leaf", 3, api.ErrForm, func(x *guest) { x.W.Com.From = 4 }},
		{"a half of the path", 3, api.ErrForm, func(x *guest) { x.W.Com.Path.Pub = nil }},
		{"a short box of a step", 4, api.ErrShort, func(x *guest) { x.W.Com.Path.Step[1].For[1].B = make([]byte, 31) }},
		{"a box of a step", 4, api.ErrKey, func(x *guest) { x.W.Com.Path.Step[1].For[1].B[40] ^= 1 }},
		{"a half of a step", 4, api.ErrKey, func(x *guest) { x.W.Com.Path.Step[1].For[1].Half = nil }},
		{"a step's pub", 4, api.ErrKey, func(x *guest) { x.W.Com.Path.Step[2].Pub[0] ^= 1 }},
		{"no half", 5, api.ErrKey, func(x *guest) { x.W.Box.Half = nil }},
		{"a half that is longer", 5, api.ErrKey, func(x *guest) { x.W.Box.Half = append(x.W.Box.Half, 0) }},
		{"another half", 5, api.ErrKey, func(x *guest) { x.W.Box.Half = seedAt(3) }},
		{"another box", 5, api.ErrKey, func(x *guest) { x.W.Box.B = make([]byte, 96) }},
		{"no box", 5, api.ErrShort, func(x *guest) { x.W.Box.B = nil }},
		{"a short box", 5, api.ErrShort, func(x *guest) { x.W.Box.B = x.W.Box.B[:31] }},
		{"a box of nothing", 5, api.ErrForm, func(x *guest) { rewrapped(x, nil) }},
		{"a box of 63", 5, api.ErrForm, func(x *guest) { rewrapped(x, make([]byte, 63)) }},
		{"a box of 65", 5, api.ErrForm, func(x *guest) { rewrapped(x, make([]byte, 65)) }},
		{"a box of 32", 5, api.ErrForm, func(x *guest) { rewrapped(x, make([]byte, 32)) }},
		{"none taken in", 6, api.ErrNone, func(x *guest) { x.Psk = shared()[:2] }},
		{"one more taken in", 6, api.ErrNone, func(x *guest) { x.W.Com.Prop = append(x.W.Com.Prop, take(77)) }},
		{"another secret", 7, api.ErrKey, func(x *guest) { x.Psk[1].Secret = []byte{1} }},
		{"a box of other secrets", 7, api.ErrKey, func(x *guest) { rewrapped(x, make([]byte, 64)) }},
		{"a proof", 7, api.ErrKey, func(x *guest) { x.W.Com.Proof[0] ^= 1 }},
		{"no proof", 7, api.ErrKey, func(x *guest) { x.W.Com.Proof = nil }},
		{"another log", 7, api.ErrKey, func(x *guest) { x.W.Log[31] ^= 1 }},
		{"another epoch", 7, api.ErrKey, func(x *guest) { x.W.Com.Epoch++ }},
		{"one more removed", 7, api.ErrKey, func(x *guest) { x.W.Com.Prop = append(x.W.Com.Prop, remove(3)) }},
		{"another tree", 7, api.ErrKey, func(x *guest) { x.W.Tree[0].Name = 99 }},
		{"a hash", 7, api.ErrKey, func(x *guest) { x.W.Tree[0].Hash = make([]byte, 32) }},
	}
}

// P14.4: each error; and of two that apply the one that is named first.
func TestJoinRefuses(t *testing.T) {
	x, _ := someGuest(t)
	isJoined(t, x)
	all := slices.Concat(badArgs(), badParts(), badKeys())
	for _, f := range all {
		for _, g := range append([]flaw{{do: func(*guest) {}, rank: 99}}, all...) {
			// The one that is told first is done last, so that it stays.
			if f.rank < g.rank {
				y := cloned(x)
				g.do(&y)
				f.do(&y)
				isNotJoined(t, y, f.e, f.what, g.what)
			}
		}
	}
}

// P14.4: the Id is what the box and the path were wrapped with.
func TestJoinId(t *testing.T) {
	x, _ := someGuest(t)
	y := cloned(x)
	y.W.Com.Id = []byte("bus")
	isNotJoined(t, y, api.ErrKey, "another id")
	for _, n := range []int{0, 1, 255} {
		g := cloned(busy(t).in[12])
		g.Id = counted(n, 1)
		o := commit(g, []api.Prop{add(30)}, seedAt(1), seedAt(2))
		isJoined(t, guest{o.Welcomes[0], 30, beforehand(30), nil})
	}
}

// P14.4: the signature isn't asked for: a commit that is signed otherwise is proved by its secrets.
func TestJoinUnsigned(t *testing.T) {
	x, _ := someGuest(t)
	for _, n := range []int{0, 32, 1000} {
		x.W.Com.Sign = make([]byte, n)
		isJoined(t, x)
	}
}

// P14.4: the epoch behind the commit's may be the last one.
func TestJoinLastEpoch(t *testing.T) {
	g := cloned(busy(t).in[12])
	for _, n := range []int{0, lastEpoch - 2, lastEpoch - 1} {
		g.Epoch = n
		o := commit(g, []api.Prop{add(30)}, seedAt(1), seedAt(2))
		if got := isJoined(t, guest{o.Welcomes[0], 30, beforehand(30), nil}); got.Epoch != n+1 {
			t.Errorf("epoch %d behind %d", got.Epoch, n)
		}
	}
}

// forged is a welcome, by a leaf, of a tree that is told as it is: all else is right, so that only the tree can be refused. It is told to leaf 1.
func forged(t *testing.T, of []api.Node, from int) guest {
	t.Helper()
	if !tree.Right(of) {
		t.Fatalf("not right: %s", told(of))
	}
	m, e := path.Make(of, from, seedAt(200), seedAt(201), []byte("id"))
	if e != api.OK {
		t.Fatal(e)
	}
	c := api.Commit{Id: []byte("id"), From: from, Path: m.Path}
	joiner, proof := seedAt(202), seedAt(203)
	g := api.Group{Id: c.Id, Epoch: 1, Tree: m.Tree, Log: sumOf(rowOf(seedAt(204)), rowOf(proof), rowOf(contentOf(c)))}
	c.Proof = proofOf(withSecrets(g, joiner, nil))
	box := wrapOf(publicOf(seedAt(1)), seedAt(205), c.Id, append(bytes.Clone(joiner), proof...))
	return guest{api.Welcome{Tree: of, Log: seedAt(204), Com: c, Box: box}, 1, seedAt(1), nil}
}

// parent is a node over others, of that seed and Un.
func parent(n int, un ...int) api.Node {
	return api.Node{Kind: api.Parent, Pub: publicOf(seedAt(n)), Un: un}
}

// P14.4: a tree in which a Parent is told by none below it isn't Held, though the proof is right.
func TestJoinHeld(t *testing.T) {
	isJoined(t, forged(t, byHand(t, 4).Tree, 0))
	// Node 5 is off the path of leaf 0, and told by nobody.
	loose := byHand(t, 4).Tree
	loose[5] = parent(300)
	x := forged(t, loose, 0)
	if hash.Held(joinOf(x).Tree) {
		t.Error("held")
	}
	isNotJoined(t, x, api.ErrKey, "not held")
	// Laid by leaf 2, so that it is told.
	laid, _ := hash.Laid(loose, 2)
	isJoined(t, forged(t, laid, 0))
}

// P14.4: a tree in which a Parent over the one who comes doesn't tell that one among its Un, though its seed isn't told by the path: the seeds aren't right, though the proof is.
func TestJoinSeeds(t *testing.T) {
	for _, un := range [][]int{nil, {1}} {
		eight := byHand(t, 8).Tree
		eight[3], eight[1] = parent(301, 1), parent(302, un...)
		laid, _ := hash.Laid(eight, 0)
		x := forged(t, laid, 4)
		g := joinOf(x)
		if !hash.Held(g.Tree) || path.Right(g.Tree, 1, g.Own) != (un != nil) {
			t.Errorf("%v: %s", un, told(g))
		}
		if un == nil {
			isNotJoined(t, x, api.ErrKey, "seeds that aren't right")
		} else {
			isJoined(t, x)
		}
	}
}
