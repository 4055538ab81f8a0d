package group_test

import (
	"bytes"
	"slices"
	"testing"

	"pyx/api"
	"pyx/group"
)

// isProcessed asks that a group comes to the next epoch by a commit, as the model has it, that it is right, and that nothing is written into.
func isProcessed(t *testing.T, g api.Group, c api.Commit) api.Group {
	t.Helper()
	was := told(g) + told(c)
	got, e := group.Process(g, c)
	want, ex := processOf(g, c)
	if e != api.OK || ex != api.OK || told(got) != told(want) || !group.Right(got) {
		t.Errorf("error %d, want %d:\n%s\n%s", e, ex, told(got), told(want))
	}
	if !bytes.Equal(proofOf(got), c.Proof) {
		t.Errorf("proof %x, want %x", proofOf(got), c.Proof)
	}
	if told(g)+told(c) != was {
		t.Error("written into")
	}
	return got
}

// isUnprocessed asks that a commit is refused with that error, and that the group is what it was.
func isUnprocessed(t *testing.T, g api.Group, c api.Commit, want api.Errno, what ...any) {
	t.Helper()
	was := told(g) + told(c)
	if got, e := group.Process(g, c); e != want || told(got) != told(g) {
		t.Errorf("%v: error %d, want %d; %.200s", what, e, want, told(c))
	}
	if told(g)+told(c) != was {
		t.Errorf("%v: written into", what)
	}
}

// resigned is a commit signed anew, as whoever knows the leaf's public half may do here.
func resigned(g api.Group, c api.Commit) api.Commit {
	if 0 <= c.From && c.From < (len(g.Tree)+1)/2 {
		c.Sign = signOf(g.Tree[2*c.From].Pub, c)
	}
	return c
}

// P14.3: commits of all kinds, by each member, processed by each other one.
func TestProcess(t *testing.T) {
	c := busy(t)
	for _, by := range c.names() {
		for _, l := range [][]api.Prop{nil, {add(30)}, {add(30), add(31), add(32)}, {take(9), take(0)}, {take(4), add(40)}} {
			o := commit(c.in[by], l, seedAt(by), seedAt(by+100))
			for _, name := range c.names() {
				if name == by {
					continue
				}
				got := isProcessed(t, c.in[name], o.Com)
				if got.Epoch != c.in[name].Epoch+1 || got.Me != c.in[name].Me || told(got.Sec) != told(o.Next.Sec) || told(got.Tree) != told(o.Next.Tree) {
					t.Errorf("by %d, %s: %d has something else", by, told(l), name)
				}
			}
		}
	}
}

// P14.3: commits by which others go, so that seeds are forgotten whose nodes are Blank then, or aren't there any more.
func TestProcessRemoves(t *testing.T) {
	c := busy(t)
	fewer := 0
	for _, by := range c.names() {
		for _, l := range [][]api.Prop{{remove(10)}, {remove(12)}, {remove(21)}, {remove(16), remove(21)}, {remove(14), remove(15), remove(16), remove(21)}, {remove(10), remove(12), remove(20)}, {remove(15), add(15)}, {remove(20), add(60), take(9), add(61)}} {
			o := commit(c.in[by], l, seedAt(by), seedAt(by+100))
			if o.E == api.ErrState {
				continue
			}
			for _, name := range c.names() {
				switch {
				case name == by:
				case slices.ContainsFunc(l, func(p api.Prop) bool { return p.Kind == api.PRemove && p.Name == name }):
					isUnprocessed(t, c.in[name], o.Com, api.ErrState, name, "goes")
				default:
					if got := isProcessed(t, c.in[name], o.Com); len(got.Own) < len(c.in[name].Own) {
						fewer++
					}
				}
			}
		}
	}
	if fewer < 20 {
		t.Errorf("%d groups forgot seeds", fewer)
	}
}

// P14.3: a seed whose node is Blank behind what is proposed isn't asked: the secret is taken from the next node of which one is known.
func TestProcessForgets(t *testing.T) {
	c := newCrowd(t, []byte("eight"), 0, 1, 2, 3, 4, 5, 6, 7)
	for _, name := range c.names() {
		c.step(name)
	}
	known := len(c.in[5].Own)
	o := commit(c.in[0], []api.Prop{remove(4)}, seedAt(1), seedAt(2))
	got := isProcessed(t, c.in[5], o.Com)
	if known != 4 || len(got.Own) != 2 {
		t.Errorf("%d seeds, and %d then; want 4, 2", known, len(got.Own))
	}
	// The root's right half goes: its nodes aren't there any more.
	o = commit(c.in[0], []api.Prop{remove(4), remove(5), remove(6), remove(7)}, seedAt(1), seedAt(2))
	got = isProcessed(t, c.in[3], o.Com)
	if len(got.Tree) != 7 || len(got.Own) != 3 || got.Own[1].Node != 5 {
		t.Errorf("%d nodes, seeds %s", len(got.Tree), told(got.Own))
	}
}

// trial is a group, and a commit that it may be asked to process; how far the commit's epoch is from the group's; and whether what was signed is spoilt then.
type trial struct {
	g     api.Group
	c     api.Commit
	delta int
	spoil bool
}

// fault is what may be wrong with a trial, and the error that tells it. Those of a lesser rank are told first.
type fault struct {
	what string
	rank int
	e    api.Errno
	do   func(x *trial)
}

// processed asks what is answered to a trial with these faults.
func (x trial) process(t *testing.T, want api.Errno, faults ...fault) {
	t.Helper()
	var what []string
	x.g, x.c = cloned(x.g), cloned(x.c)
	for _, f := range faults {
		f.do(&x)
		what = append(what, f.what)
	}
	x.c.Epoch = x.g.Epoch + x.delta
	// Signatures that are too long stay: their length is what is wrong.
	if len(x.c.Sign) <= 1000 && x.c.Epoch >= 0 {
		x.c = resigned(x.g, x.c)
	}
	if x.spoil {
		x.c.Sign[31] ^= 1
	}
	if want == api.OK {
		isProcessed(t, x.g, x.c)
		return
	}
	isUnprocessed(t, x.g, x.c, want, what)
}

// whence are faults of where a commit comes from.
func whence() []fault {
	out := []fault{
		{"another id", 0, api.ErrArg, func(x *trial) { x.c.Id = []byte("bus") }},
		{"no id", 0, api.ErrArg, func(x *trial) { x.c.Id = nil }},
		{"a longer id", 0, api.ErrArg, func(x *trial) { x.c.Id = append(x.c.Id, 0) }},
		{"the group's id", 0, api.ErrArg, func(x *trial) { x.g.Id[0]++ }},
		{"me", 0, api.ErrArg, func(x *trial) { x.c.From = x.g.Me }},
	}
	for _, from := range []int{1, -1, 8, 9, 63, 64, 65536, least, greatest, 1 << 62, 1<<62 + 2, 1<<63 - 2} {
		out = append(out, fault{"no leaf", 0, api.ErrArg, func(x *trial) { x.c.From = from }})
	}
	return append(out,
		fault{"an epoch ahead", 1, api.ErrStale, func(x *trial) { x.delta = -1 }},
		fault{"epochs ahead", 1, api.ErrStale, func(x *trial) { x.delta = -5 }},
		fault{"an epoch behind", 1, api.ErrState, func(x *trial) { x.delta = 1 }},
		fault{"epochs behind", 1, api.ErrState, func(x *trial) { x.delta = 1 << 20 }},
		fault{"the last epoch", 2, api.ErrBig, func(x *trial) { x.g.Epoch = lastEpoch }})
}

// rowsOfCommit are where the rows of a commit stand that may have any length.
func rowsOfCommit(c *api.Commit) []*[]byte {
	out := []*[]byte{&c.Proof, &c.Path.Pub, &c.Prop[0].Pub, &c.Prop[len(c.Prop)-1].Pub}
	for k := range c.Path.Step {
		s := &c.Path.Step[k]
		last := len(s.For) - 1
		if last < 0 {
			continue
		}
		out = append(out, &s.Pub, &s.For[0].Half, &s.For[0].B, &s.For[last].Half, &s.For[last].B)
	}
	return out
}

// parts are faults of a commit's parts.
func parts() []fault {
	const rank = 3
	out := []fault{
		{"too many proposed", rank, api.ErrArg, func(x *trial) { x.c.Prop = append(x.c.Prop, slices.Repeat([]api.Prop{take(4)}, 21-len(x.c.Prop))...) }},
		{"far too many proposed", rank, api.ErrArg, func(x *trial) { x.c.Prop = append(x.c.Prop, make([]api.Prop, 60000)...) }},
		{"too many steps", rank, api.ErrArg, func(x *trial) { x.c.Path.Step = append(x.c.Path.Step, make([]api.Step, 11-len(x.c.Path.Step))...) }},
		{"too many wrapped", rank, api.ErrArg, func(x *trial) { x.c.Path.Step[1].For = make([]api.Sealed, 65) }},
		{"too many wrapped of the last one", rank, api.ErrArg, func(x *trial) { x.c.Path.Step = append(x.c.Path.Step, api.Step{For: make([]api.Sealed, 65)}) }},
		{"a sign that is too long", rank, api.ErrArg, func(x *trial) { x.c.Sign = make([]byte, 1001) }},
	}
	for _, kind := range []int{0, 4, -1, 256, least} {
		out = append(out, fault{"no kind", rank, api.ErrArg, func(x *trial) { x.c.Prop[2].Kind = kind }})
	}
	for _, name := range []int{-1, 65536} {
		for k := range 3 {
			out = append(out, fault{"no name", rank, api.ErrArg, func(x *trial) { x.c.Prop[k].Name = name }})
		}
	}
	for k := range 19 {
		out = append(out, fault{"a row that is too long", rank, api.ErrArg, func(x *trial) {
			rows := rowsOfCommit(&x.c)
			*rows[k%len(rows)] = make([]byte, 1001)
		}})
	}
	return out
}

// deeper are faults that are told only behind a right signature, and that one itself.
func deeper() []fault {
	short := add(50)
	short.Pub = short.Pub[:31]
	with := func(p api.Prop) func(x *trial) { return func(x *trial) { x.c.Prop = append(x.c.Prop, p) } }
	wrapped := func(n int) func(x *trial) {
		return func(x *trial) {
			// By 12, of leaf 2, to 16, of leaf 6: the root is wrapped for what is below node 11, which knows it.
			x.c.Path.Step[2].For[0] = wrapOf(x.g.Tree[11].Pub, seedAt(9), x.g.Id, make([]byte, n))
		}
	}
	return []fault{
		{"a sign", 4, api.ErrKey, func(x *trial) { x.spoil = true }},
		{"none goes", 5, api.ErrNone, with(remove(999))},
		{"who proposes it goes", 5, api.ErrState, with(remove(12))},
		{"had", 6, api.ErrHad, with(add(14))},
		{"a half", 6, api.ErrArg, with(short)},
		{"no secret", 7, api.ErrNone, with(take(5))},
		{"I go", 8, api.ErrState, with(remove(16))},
		{"a step less", 9, api.ErrForm, func(x *trial) { x.c.Path.Step = x.c.Path.Step[:2] }},
		{"a step more", 9, api.ErrForm, func(x *trial) { x.c.Path.Step = append(x.c.Path.Step, x.c.Path.Step[0]) }},
		{"as many steps as may be", 9, api.ErrForm, func(x *trial) { x.c.Path.Step = append(x.c.Path.Step, make([]api.Step, 7)...) }},
		{"as many wrapped as may be", 9, api.ErrForm, func(x *trial) { x.c.Path.Step[0].For = make([]api.Sealed, 64) }},
		{"a half of the path", 9, api.ErrForm, func(x *trial) { x.c.Path.Pub = x.c.Path.Pub[1:] }},
		{"a half of 1000", 9, api.ErrForm, func(x *trial) { x.c.Path.Pub = make([]byte, 1000) }},
		{"a half that was used once", 10, api.ErrKey, func(x *trial) { x.c.Path.Step[2].For[0].Half = make([]byte, 1000) }},
		{"a box", 10, api.ErrKey, func(x *trial) { x.c.Path.Step[2].For[0].B = make([]byte, 1000) }},
		{"a short box", 10, api.ErrShort, func(x *trial) { x.c.Path.Step[2].For[0].B = make([]byte, 31) }},
		{"a short secret", 10, api.ErrForm, wrapped(31)},
		{"a long secret", 10, api.ErrForm, wrapped(33)},
		{"another secret", 10, api.ErrKey, wrapped(32)},
		{"a step's half", 10, api.ErrKey, func(x *trial) { x.c.Path.Step[2].Pub = make([]byte, 32) }},
		{"the lowest step's half", 11, api.ErrKey, func(x *trial) { x.c.Path.Step[0].Pub = make([]byte, 32) }},
		{"a proof", 11, api.ErrKey, func(x *trial) { x.c.Proof[0] ^= 1 }},
		{"a proof of 1000", 11, api.ErrKey, func(x *trial) { x.c.Proof = append(x.c.Proof, make([]byte, 968)...) }},
		{"no proof", 11, api.ErrKey, func(x *trial) { x.c.Proof = nil }},
		{"one more comes", 11, api.ErrKey, func(x *trial) { x.g.Log[5]++ }},
	}
}

// someTrial is a commit by 12, of three steps, and 16, who may process it.
func someTrial(t *testing.T) trial {
	t.Helper()
	c := busy(t)
	o := commit(c.in[12], []api.Prop{add(30), take(9), take(4)}, seedAt(1), seedAt(2))
	if o.E != api.OK || len(o.Com.Path.Step) != 3 || c.in[16].Tree[11].Kind != api.Parent {
		t.Fatal(told(o))
	}
	return trial{g: c.in[16], c: o.Com}
}

// P14.3: each error; and of two that apply the one that is named first.
func TestProcessRefuses(t *testing.T) {
	x := someTrial(t)
	x.process(t, api.OK)
	all := slices.Concat(whence(), parts(), deeper())
	for _, f := range all {
		x.process(t, f.e, f)
		for _, g := range all {
			// The one that is told first is done last, so that it stays.
			if f.rank < g.rank {
				x.process(t, f.e, g, f)
			}
		}
	}
}

// P14.3: parts about their edges: as many, and as long, as may be, are taken.
func TestProcessEdges(t *testing.T) {
	c := busy(t)
	g := c.in[16]
	for n, want := range map[int]api.Errno{0: api.OK, 32: api.OK, 999: api.OK, 1000: api.OK, 1001: api.ErrArg, 2000: api.ErrArg} {
		for _, p := range []api.Prop{remove(20), take(9)} {
			p.Pub = make([]byte, n)
			o := commit(c.in[12], []api.Prop{p}, seedAt(1), seedAt(2))
			if o.E != api.OK {
				t.Fatal(o.E)
			}
			if want == api.OK {
				isProcessed(t, g, o.Com)
			} else {
				isUnprocessed(t, g, o.Com, want, n, "bytes")
			}
		}
	}
	for _, l := range [][]api.Prop{slices.Repeat([]api.Prop{take(65535)}, 20), {add(65535), add(0), take(65535), take(0)}} {
		isProcessed(t, g, commit(c.in[12], l, seedAt(1), seedAt(2)).Com)
	}
	sign := commit(c.in[12], nil, seedAt(1), seedAt(2)).Com
	sign.Sign = append(sign.Sign, make([]byte, 968)...)
	isUnprocessed(t, g, sign, api.ErrKey, "a sign of 1000")
	sign.Sign = append(sign.Sign, 0)
	isUnprocessed(t, g, sign, api.ErrArg, "a sign of 1001")
	long := cloned(g)
	long.Id = make([]byte, 255)
	by := cloned(c.in[12])
	by.Id = long.Id
	isProcessed(t, long, commit(by, nil, seedAt(1), seedAt(2)).Com)
}

// P14.3: the last epoch but one is gone on from; the last one isn't.
func TestProcessLastEpoch(t *testing.T) {
	c := busy(t)
	by, g := cloned(c.in[12]), cloned(c.in[16])
	by.Epoch, g.Epoch = lastEpoch-1, lastEpoch-1
	o := commit(by, nil, seedAt(1), seedAt(2))
	if got := isProcessed(t, g, o.Com); got.Epoch != lastEpoch {
		t.Errorf("epoch %d", got.Epoch)
	}
	g.Epoch = lastEpoch
	isUnprocessed(t, g, o.Com, api.ErrStale)
	o.Com.Epoch = lastEpoch
	isUnprocessed(t, g, o.Com, api.ErrBig)
	g.Epoch = 0
	isUnprocessed(t, g, o.Com, api.ErrState)
}

// P14.3: each bit of a commit counts: whatever is changed is refused, if it isn't signed anew.
func TestProcessSigned(t *testing.T) {
	x := someTrial(t)
	isProcessed(t, x.g, x.c)
	for k, row := range append(rowsOfCommit(&x.c), &x.c.Sign) {
		for at := range *row {
			(*row)[at] ^= 4
			isUnprocessed(t, x.g, x.c, api.ErrKey, "row", k, "byte", at)
			(*row)[at] ^= 4
		}
	}
	for k, n := range []*int{&x.c.Prop[0].Name, &x.c.Prop[1].Name} {
		*n ^= 1
		isUnprocessed(t, x.g, x.c, api.ErrKey, "name", k)
		*n ^= 1
	}
	x.c.From = 4
	isUnprocessed(t, x.g, x.c, api.ErrKey, "from another leaf")
}

// P14.3: what the shared secrets are that one has counts, if they are taken in, and no other one.
func TestProcessPsk(t *testing.T) {
	c := busy(t)
	o := commit(c.in[12], []api.Prop{take(9)}, seedAt(1), seedAt(2))
	g := cloned(c.in[16])
	g.Psk = []api.Psk{{Id: 9, Secret: counted(64, 9)}}
	isProcessed(t, g, o.Com)
	g.Psk[0].Secret[63]++
	isUnprocessed(t, g, o.Com, api.ErrKey)
	g.Psk[0].Id = 8
	isUnprocessed(t, g, o.Com, api.ErrNone)
	g.Psk = nil
	isUnprocessed(t, g, o.Com, api.ErrNone)
}

// P14.3: a commit to a group of 64, by which one more comes, isn't taken, though it is signed.
func TestProcessTooMany(t *testing.T) {
	g := byHand(t, 64)
	c := api.Commit{Id: g.Id, From: 3, Prop: []api.Prop{add(1000)}}
	isUnprocessed(t, g, resigned(g, c), api.ErrBig)
	c.Prop = []api.Prop{add(3)}
	isUnprocessed(t, g, resigned(g, c), api.ErrHad)
	c.Prop = []api.Prop{add(1000), remove(9)}
	isUnprocessed(t, g, resigned(g, c), api.ErrForm)
}
