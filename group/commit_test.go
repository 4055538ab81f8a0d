package group_test

import (
	"bytes"
	"slices"
	"testing"

	"pyx/api"
	"pyx/group"
	"pyx/hash"
	"pyx/tree"
)

// isCommitted asks that Commit answers what the model has, that the group behind it is right, if there is one, and that the group ahead stays as it is.
func isCommitted(t *testing.T, g api.Group, l []api.Prop, seed, secret []byte) outcome {
	t.Helper()
	was := told(g) + told(l)
	got, want := commit(g, l, seed, secret), commitOf(g, l, seed, secret)
	if told(got) != told(want) {
		t.Errorf("%s: error %d, want %d:\n%s\n%s", told(l), got.E, want.E, told(got), told(want))
	}
	if !group.Right(got.Next) {
		t.Errorf("%s: not right: %s", told(l), told(got.Next))
	}
	if told(g)+told(l) != was {
		t.Errorf("%s: written into", told(l))
	}
	return got
}

// isUncommitted asks that Commit answers that error, the group as it was, and nothing else.
func isUncommitted(t *testing.T, g api.Group, l []api.Prop, seed, secret []byte, want api.Errno) {
	t.Helper()
	if got := commit(g, l, seed, secret); got.E != want || told(got) != told(outcome{Next: g, E: want}) || got.Welcomes != nil {
		t.Errorf("%s: %s; want error %d, the group as it was, and nothing", told(l), told(got), want)
	}
}

// P14.2: commits of what may be proposed, by members of all kinds of groups.
func TestCommit(t *testing.T) {
	one, _ := group.Create(nil, 7, seedAt(1), seedAt(2))
	one.Psk = shared()
	groups := []api.Group{one, byHand(t, 1), byHand(t, 2), byHand(t, 8)}
	for _, name := range []int{10, 12, 20, 21} {
		groups = append(groups, busy(t).in[name])
	}
	for k, g := range groups {
		for _, l := range [][]api.Prop{
			nil,
			{},
			{add(100)},
			{add(0x102), add(65535)},
			{take(0)},
			{take(9), take(4), take(9)},
			{take(4), take(9), take(9)},
			{add(100), take(65535), add(101)},
			{add(101), take(65535), add(100)},
		} {
			o := isCommitted(t, g, l, seedAt(50+k), seedAt(60+k))
			if o.E != api.OK || o.Next.Epoch != g.Epoch+1 || o.Com.Epoch != g.Epoch || o.Com.From != g.Me || o.Next.Me != g.Me || told(o.Next.Psk) != told(g.Psk) {
				t.Errorf("%s: %d, %s", told(l), o.E, told(o))
			}
			isCommitted(t, g, l, make([]byte, 32), make([]byte, 32))
			isCommitted(t, g, l, bytes.Repeat([]byte{0xff}, 32), seedAt(60))
		}
	}
}

// P14.2: commits by which members go, with others that come; a name that goes comes again.
func TestCommitRemoves(t *testing.T) {
	c := busy(t)
	for _, by := range c.names() {
		for _, l := range [][]api.Prop{
			{remove(10)}, {remove(12)}, {remove(21)}, {remove(20), remove(21)}, {remove(21), remove(20)},
			{remove(14), remove(15), remove(16), remove(21)},
			{remove(20), add(20)}, {add(20), remove(20)}, {add(30), take(0), remove(15), add(31), remove(21)},
			{add(10), remove(10)},
		} {
			got := isCommitted(t, c.in[by], l, seedAt(by), seedAt(by+1))
			own := slices.ContainsFunc(l, func(p api.Prop) bool { return p.Kind == api.PRemove && p.Name == by })
			if own != (got.E == api.ErrState) || !own && got.E != api.OK {
				t.Errorf("by %d, %s: %d", by, told(l), got.E)
			}
		}
	}
	small := isCommitted(t, c.in[10], []api.Prop{remove(14), remove(15), remove(16), remove(21)}, seedAt(1), seedAt(2))
	if len(small.Next.Tree) != 7 || len(small.Next.Chain) != 4 {
		t.Errorf("%d nodes, %d chains; want a tree of four leaves", len(small.Next.Tree), len(small.Next.Chain))
	}
}

// P14.2: what is told by a welcome, and to whom: each PAdd has one, in order; the tree ahead of the path, in which all are that come.
func TestWelcomes(t *testing.T) {
	g := busy(t).in[12]
	o := isCommitted(t, g, []api.Prop{add(300), take(4), add(200), remove(20), add(400)}, seedAt(1), seedAt(2))
	if o.E != api.OK || len(o.Welcomes) != 3 {
		t.Fatal(o.E, len(o.Welcomes))
	}
	halves := map[string]int{}
	for k, w := range o.Welcomes {
		if told(w.Com) != told(o.Com) || told(w.Log) != told(g.Log) || tree.Same(w.Tree, o.Next.Tree) || len(w.Box.B) != 96 {
			t.Errorf("welcome %d: %s", k, told(w))
		}
		halves[string(w.Box.Half)]++
		for _, name := range []int{300, 200, 400} {
			if leafOf(w.Tree, name) < 0 {
				t.Errorf("welcome %d: no leaf of %d", k, name)
			}
		}
		if x := w.Tree[3]; x.Kind != api.Blank {
			t.Errorf("welcome %d: behind the path: %s", k, told(x))
		}
		name := []int{300, 200, 400}[k]
		for other, seed := range map[int][]byte{300: beforehand(300), 200: beforehand(200), 400: beforehand(400)} {
			_, e := group.Join(w, other, seed, shared())
			if (e == api.OK) != (other == name) {
				t.Errorf("welcome %d, of %d: %d joins with %d", k, name, other, e)
			}
		}
	}
	if len(halves) != 3 {
		t.Errorf("%d halves that were used once", len(halves))
	}
	if o := isCommitted(t, g, []api.Prop{take(4), remove(20)}, seedAt(1), seedAt(2)); o.Welcomes != nil {
		t.Errorf("nobody comes: %s", told(o.Welcomes))
	}
}

// P14.2: another seed, secret, proposal, order of shared secrets, Id or log makes another epoch; so does another secret that is taken in; one that isn't makes none.
func TestCommitTellsAll(t *testing.T) {
	g := busy(t).in[14]
	seen := map[string]int{}
	many := 0
	see := func(g api.Group, l []api.Prop, seed, secret []byte) {
		t.Helper()
		many++
		seen[told(isCommitted(t, g, l, seed, secret).Next.Sec)]++
	}
	see(g, nil, seedAt(1), seedAt(2))
	see(g, nil, seedAt(3), seedAt(2))
	see(g, nil, seedAt(1), seedAt(3))
	see(g, []api.Prop{add(500)}, seedAt(1), seedAt(2))
	see(g, []api.Prop{take(4), take(9)}, seedAt(1), seedAt(2))
	see(g, []api.Prop{take(9), take(4)}, seedAt(1), seedAt(2))
	for k := range 5 {
		other := cloned(g)
		*[]*[]byte{&other.Id, &other.Log, &other.Sec.Init, &other.Sec.Confirm, &other.Psk[1].Secret}[k] = counted(32, 70+k)
		see(other, []api.Prop{take(4)}, seedAt(1), seedAt(2))
	}
	other := cloned(g)
	other.Epoch++
	see(other, nil, seedAt(1), seedAt(2))
	if len(seen) != many {
		t.Errorf("%d epochs of %d", len(seen), many)
	}
	other = cloned(g)
	other.Psk[1].Secret = []byte("5")
	other.Sec.Send, other.Sec.Export, other.Sec.Resume = seedAt(1), seedAt(2), seedAt(3)
	if told(commit(other, nil, seedAt(1), seedAt(2)).Next.Sec) != told(commit(g, nil, seedAt(1), seedAt(2)).Next.Sec) {
		t.Error("what isn't taken in shows")
	}
}

// P14.2: who signs, and how: by the public half of the leaf ahead of the path, which isn't its half behind it.
func TestCommitIsSigned(t *testing.T) {
	g := busy(t).in[15]
	o := isCommitted(t, g, []api.Prop{add(33)}, seedAt(1), seedAt(2))
	ahead, behind := g.Tree[2*g.Me].Pub, o.Next.Tree[2*g.Me].Pub
	if !bytes.Equal(o.Com.Sign, signOf(ahead, o.Com)) || bytes.Equal(ahead, behind) || !bytes.Equal(behind, publicOf(seedAt(1))) {
		t.Errorf("sign %x", o.Com.Sign)
	}
	if !bytes.Equal(o.Com.Proof, proofOf(o.Next)) || !bytes.Equal(group.Content(o.Com), contentOf(o.Com)) {
		t.Errorf("proof %x", o.Com.Proof)
	}
	if !hash.Held(o.Next.Tree) {
		t.Error("the tree isn't held")
	}
}

// P14.2: seeds and secrets of another length, ahead of an epoch that is the last one, ahead of what can't be proposed.
func TestCommitRefuses(t *testing.T) {
	g := busy(t).in[16]
	last := cloned(g)
	last.Epoch = lastEpoch
	none := []api.Prop{remove(999)}
	for _, n := range wrongLengths {
		for _, l := range [][]api.Prop{nil, none, {add(50)}, make([]api.Prop, 21)} {
			for _, g := range []api.Group{g, last} {
				isUncommitted(t, g, l, make([]byte, n), seedAt(1), api.ErrArg)
				isUncommitted(t, g, l, seedAt(1), make([]byte, n), api.ErrArg)
				isUncommitted(t, g, l, make([]byte, n), make([]byte, n), api.ErrArg)
			}
		}
	}
	isUncommitted(t, g, nil, nil, nil, api.ErrArg)
	for _, l := range [][]api.Prop{nil, none, {add(50)}, make([]api.Prop, 21), {{Kind: 4}}} {
		isUncommitted(t, last, l, seedAt(1), seedAt(2), api.ErrBig)
	}
	last.Epoch--
	o := isCommitted(t, last, []api.Prop{add(50)}, seedAt(1), seedAt(2))
	if o.E != api.OK || o.Next.Epoch != lastEpoch {
		t.Errorf("one ahead of the last epoch: %d", o.E)
	}
	isUncommitted(t, o.Next, nil, seedAt(1), seedAt(2), api.ErrBig)
}

// P14.2: what can't be proposed at all: too much, other kinds, other names; ahead of what isn't there.
func TestProposedAtAll(t *testing.T) {
	g := busy(t).in[16]
	wrong := func(l ...api.Prop) {
		t.Helper()
		isUncommitted(t, g, l, seedAt(1), seedAt(2), api.ErrArg)
	}
	for _, kind := range []int{0, 4, 5, -1, 257, 258, 259, least, greatest} {
		p := add(50)
		p.Kind = kind
		wrong(p)
		wrong(remove(999), take(1), p)
		wrong(p, remove(16))
	}
	for _, name := range []int{-1, 65536, 65537, 65546, least, greatest, 1 << 32, 1<<32 + 10} {
		for _, kind := range []int{api.PAdd, api.PRemove, api.PPsk} {
			p := api.Prop{Kind: kind, Name: name, Pub: seedAt(3)}
			wrong(p)
			wrong(remove(999), take(1), p)
			wrong(add(10), p)
		}
	}
	twenty := slices.Repeat([]api.Prop{take(4)}, 20)
	isCommitted(t, g, twenty, seedAt(1), seedAt(2))
	wrong(append(twenty, take(4))...)
	wrong(append([]api.Prop{remove(999)}, twenty...)...)
	wrong(slices.Repeat([]api.Prop{remove(999)}, 21)...)
	wrong(make([]api.Prop, 10)...)
	var all []api.Prop
	for k := range 20 {
		all = append(all, add(1000+k))
	}
	if o := isCommitted(t, g, all, seedAt(1), seedAt(2)); o.E != api.OK || len(o.Welcomes) != 20 || len(o.Next.Chain) != 32 {
		t.Errorf("twenty come: %d, %d welcomes, %d chains", o.E, len(o.Welcomes), len(o.Next.Chain))
	}
}

// P14.2: what isn't there, or is, or is the one who proposes it: first those that go, then those that come, then what is taken in.
func TestProposedInOrder(t *testing.T) {
	c := busy(t)
	g := c.in[16]
	short := add(50)
	short.Pub = short.Pub[:31]
	for k, x := range []struct {
		l []api.Prop
		e api.Errno
	}{
		{[]api.Prop{remove(999)}, api.ErrNone},
		{[]api.Prop{remove(11)}, api.ErrNone},
		{[]api.Prop{remove(0)}, api.ErrNone},
		{[]api.Prop{remove(16)}, api.ErrState},
		{[]api.Prop{remove(20), remove(20)}, api.ErrNone},
		{[]api.Prop{remove(20), remove(16)}, api.ErrState},
		{[]api.Prop{remove(999), remove(16)}, api.ErrNone},
		{[]api.Prop{remove(16), remove(999)}, api.ErrState},
		{[]api.Prop{add(10)}, api.ErrHad},
		{[]api.Prop{add(16)}, api.ErrHad},
		{[]api.Prop{add(50), add(50)}, api.ErrHad},
		{[]api.Prop{short}, api.ErrArg},
		{[]api.Prop{short, add(10)}, api.ErrArg},
		{[]api.Prop{add(10), short}, api.ErrHad},
		{[]api.Prop{take(1)}, api.ErrNone},
		{[]api.Prop{take(4), take(5)}, api.ErrNone},
		{[]api.Prop{take(1), add(10)}, api.ErrHad},
		{[]api.Prop{take(1), remove(16)}, api.ErrState},
		{[]api.Prop{add(10), remove(16)}, api.ErrState},
		{[]api.Prop{add(10), remove(999)}, api.ErrNone},
		{[]api.Prop{take(1), short, remove(999)}, api.ErrNone},
		{[]api.Prop{add(50), remove(50)}, api.ErrNone},
		{[]api.Prop{add(16), remove(16)}, api.ErrState},
		{[]api.Prop{add(10), remove(10)}, api.OK},
		{[]api.Prop{remove(10), add(10)}, api.OK},
		{[]api.Prop{{Kind: api.PRemove, Name: 10, Pub: counted(2000, 1)}, {Kind: api.PPsk, Name: 4, Pub: []byte{1}}}, api.OK},
	} {
		o := isCommitted(t, g, x.l, seedAt(1), seedAt(2))
		if o.E != x.e {
			t.Errorf("%d, %s: error %d, want %d", k, told(x.l), o.E, x.e)
		}
		if x.e != api.OK {
			isUncommitted(t, g, x.l, seedAt(1), seedAt(2), x.e)
		}
	}
}

// P14.2: a group has at most 64 leaves: as soon as one comes for whom there is none of those, the group is too great; unless somebody goes.
func TestProposedTooMany(t *testing.T) {
	full := byHand(t, 64)
	isUncommitted(t, full, []api.Prop{add(1000)}, seedAt(1), seedAt(2), api.ErrBig)
	isUncommitted(t, full, []api.Prop{add(1000), take(1)}, seedAt(1), seedAt(2), api.ErrBig)
	isUncommitted(t, full, []api.Prop{remove(3), add(1000), add(1001)}, seedAt(1), seedAt(2), api.ErrBig)
	isUncommitted(t, full, []api.Prop{add(5)}, seedAt(1), seedAt(2), api.ErrHad)
	isUncommitted(t, full, []api.Prop{add(5), add(1000)}, seedAt(1), seedAt(2), api.ErrHad)
	for _, l := range [][]api.Prop{nil, {remove(3), add(1000)}, {add(1000), remove(3)}, {add(3), add(1000), remove(3), remove(4)}} {
		if o := isCommitted(t, full, l, seedAt(1), seedAt(2)); o.E != api.OK || len(o.Next.Chain) != 64 {
			t.Errorf("%s: %d, %d chains", told(l), o.E, len(o.Next.Chain))
		}
	}
	half := byHand(t, 32)
	if o := isCommitted(t, half, []api.Prop{add(1000)}, seedAt(1), seedAt(2)); o.E != api.OK || len(o.Next.Chain) != 64 {
		t.Errorf("33 members: %d, %d chains", o.E, len(o.Next.Chain))
	}
}

// P14.2: drawn proposals, right or not: the names behind them are those ahead, without those that go, and with those that come.
func TestProposedDrawn(t *testing.T) {
	c := busy(t)
	d := draws(3)
	met := map[api.Errno]int{}
	for range 400 {
		by := c.names()[d.below(len(c.in))]
		var l []api.Prop
		for range d.below(5) {
			name := []int{10, 12, 16, 20, 21, 30, 31, 4, 9, 3}[d.below(10)]
			p := api.Prop{Kind: 1 + d.below(3), Name: name, Pub: publicOf(beforehand(name))}
			if d.below(30) == 0 {
				p.Kind = d.below(6)
			}
			l = append(l, p)
		}
		o := isCommitted(t, c.in[by], l, d.row(32), d.row(32))
		met[o.E]++
		if o.E != api.OK {
			continue
		}
		want := map[int]bool{}
		for _, name := range c.names() {
			want[name] = true
		}
		for _, kind := range []int{api.PRemove, api.PAdd} {
			for _, p := range l {
				if p.Kind == kind {
					want[p.Name] = kind == api.PAdd
				}
			}
		}
		for name, is := range want {
			if is != (leafOf(o.Next.Tree, name) >= 0) {
				t.Errorf("%s: is there a %d? want %t", told(l), name, is)
			}
		}
	}
	if met[api.OK] < 50 || met[api.ErrArg] == 0 || met[api.ErrNone] == 0 || met[api.ErrHad] == 0 || met[api.ErrState] == 0 {
		t.Errorf("met %v", met)
	}
}
