package path_test

import (
	"bytes"
	"encoding/hex"
	"slices"
	"testing"

	"pyx/api"
	"pyx/hash"
	"pyx/kdf"
	"pyx/path"
	"pyx/sig"
	"pyx/tree"
)

// isMadeOf asks that a leaf lays its path as the model has it.
func isMadeOf(t *testing.T, of []api.Node, i int, seed, secret, info []byte) {
	t.Helper()
	got, e := path.Make(of, i, seed, secret, info)
	isMade(t, got, e, makeOf(of, i, seed, secret, info), "leaf", i)
}

// P11.2: each leaf of trees of all kinds, as the model has it; the tree stays right, and so are the seeds.
func TestMake(t *testing.T) {
	for k, of := range woods() {
		for _, i := range there(of) {
			isMadeOf(t, of, i, filled(32, k), filled(32, 100+i), filled(i, 3))
			got, _ := path.Make(of, i, filled(32, k), filled(32, 100+i), filled(i, 3))
			if !tree.Right(got.Tree) || !path.Right(got.Tree, i, got.Own) {
				t.Errorf("leaf %d: the tree, or the seeds, aren't right:\n%s", i, toldMade(got))
			}
		}
	}
}

// P11.2: by the document's words, of the layers below.
func TestMakeByLayers(t *testing.T) {
	of, seed, secret, info := mixed(), filled(32, 1), filled(32, 2), []byte("info")
	m, e := path.Make(of, 6, seed, secret, info)
	if e != api.OK || len(m.Path.Step) != 3 {
		t.Fatalf("error %d, and\n%s", e, toldMade(m))
	}
	// Beside leaf 6 are leaf 7, and the Parents over leaf 4 and over the left half.
	want := clonedAll(of)
	want[12].Pub, _ = sig.Public(seed)
	wrapped, own := 0, secret
	for k, cover := range [][]int{{14}, {9}, {3}} {
		node, _ := kdf.Derive(own, "node")
		pub, _ := sig.Public(node)
		if !bytes.Equal(m.Path.Step[k].Pub, pub) || len(m.Path.Step[k].For) != len(cover) {
			t.Errorf("step %d: %x, for %d", k, m.Path.Step[k].Pub, len(m.Path.Step[k].For))
		}
		for n, y := range cover {
			once, _ := kdf.Label(secret, "once", num4(wrapped), 32)
			half, b, _ := sig.Wrap(of[y].Pub, once, info, own)
			if got := m.Path.Step[k].For[n]; !bytes.Equal(got.Half, half) || !bytes.Equal(got.B, b) {
				t.Errorf("step %d: what is wrapped for node %d is %x, %x", k, y, got.Half, got.B)
			}
			wrapped++
		}
		want[[]int{13, 11, 7}[k]] = api.Node{Kind: api.Parent, Pub: pub}
		own, _ = kdf.Derive(own, "path")
	}
	want, _ = hash.Laid(want, 6)
	if !tree.Same(m.Tree, want) || !bytes.Equal(m.Last, own) || !bytes.Equal(m.Path.Pub, want[12].Pub) {
		t.Errorf("%swant\n%slast %x", toldMade(m), told(want), own)
	}
}

// P11.2: seeds, public halves and the last secret, as reckoned elsewhere.
func TestMakeToldElsewhere(t *testing.T) {
	m, e := path.Make(full(4), 1, make([]byte, 32), bytes.Repeat([]byte{255}, 32), nil)
	if e != api.OK || len(m.Own) != 3 || len(m.Path.Step) != 2 || len(m.Path.Step[1].For) != 2 {
		t.Fatalf("error %d, and\n%s", e, toldMade(m))
	}
	for k, x := range []struct {
		got  []byte
		want string
	}{
		{m.Path.Pub, "a5ec6dd57f8fbc29b6b9b57c7365ce8b7eaac3232901014d210fbc5f50b399da"},
		{m.Own[0].Seed, "1ed3f7f7168595aead8673a3a31277d0063465d0caad45de2fbd3e231e61c361"},
		{m.Own[2].Seed, "53c00f8397008f435a022f5a27994d4653b3a3092a331f5439c21c70f717dbf1"},
		{m.Path.Step[0].Pub, "60b03c92141c4a1769ee8854e82da1eb448690c0aa2a342d52b77473dead2264"},
		{m.Path.Step[1].Pub, "3262fddd9a0065998b87c7dbfe0191080e47366db1cec2d2ca6039402d51bdd8"},
		{m.Path.Step[0].For[0].Half, "057d7d031de07e6131c23a504582fd97296d34cefd298a0824ce90fe88e0e764"},
		{m.Path.Step[1].For[0].Half, "d4d071cf391194de38cb5e03fb93c8bb119c6d5da81bd6d323a0dbf575541cf2"},
		{m.Path.Step[1].For[1].Half, "4c8d47716ff07cf57df336a0491fa8a5b872eee4bcaa0d7ffed3a9a0b1d34a3a"},
		{m.Last, "ceea1ae628b142e4533c7103b29f08c759c2c7776db57dbd0ec8eb56ab03e706"},
	} {
		if hex.EncodeToString(x.got) != x.want {
			t.Errorf("%d: %x; want %s", k, x.got, x.want)
		}
	}
}

// P11.2: a path without steps: the last secret is Derive of the first one itself; no Hash, no Parent is left.
func TestMakeWithoutSteps(t *testing.T) {
	lonely := some(8, 5)
	for _, s := range spans(lonely, 5) {
		lonely[s.node()] = hashed(over(s.node(), 5))
	}
	lonely[10] = hashed(lonely[10])
	for _, x := range []struct {
		of []api.Node
		i  int
	}{{full(1), 0}, {[]api.Node{hashed(leafAt(0))}, 0}, {some(2, 1), 1}, {some(1024, 77), 77}, {lonely, 5}} {
		m, e := path.Make(x.of, x.i, filled(32, 1), filled(32, 2), []byte("info"))
		want := some(len(x.of)/2+1, x.i)
		want[2*x.i].Pub = publicOf(filled(32, 1))
		isMade(t, m, e, api.Made{Tree: want, Own: []api.Seed{{Node: 2 * x.i, Seed: filled(32, 1)}}, Path: api.Path{Pub: publicOf(filled(32, 1))}, Last: deriveOf(filled(32, 2), "path")}, len(x.of))
	}
}

// P11.2: of two leaves one step, wrapped for one; the last secret stands behind that step's.
func TestMakeOfTwo(t *testing.T) {
	for _, of := range [][]api.Node{full(2), whole(2), put(full(2), map[int]api.Node{1: over(1, 0, 1)})} {
		for i := range 2 {
			isMadeOf(t, of, i, filled(32, 1), filled(32, 2), nil)
			m, _ := path.Make(of, i, filled(32, 1), filled(32, 2), nil)
			if len(m.Path.Step) != 1 || len(m.Path.Step[0].For) != 1 || !bytes.Equal(m.Last, deriveOf(filled(32, 2), "path")) {
				t.Errorf("leaf %d: %s", i, toldMade(m))
			}
		}
	}
}

// counts are for how many each step of a path was wrapped.
func counts(p api.Path) []int {
	var out []int
	for _, s := range p.Step {
		out = append(out, len(s.For))
	}
	return out
}

// P11.2: a step is wrapped for one, for several, and for leaves that came since the path beside it was laid, in the resolution's order.
func TestMakeWrapsForCover(t *testing.T) {
	for k, x := range []struct {
		of   []api.Node
		i    int
		want []int
	}{
		{full(8), 0, []int{1, 2, 4}},
		{full(8), 6, []int{1, 2, 4}},
		{whole(8), 3, []int{1, 1, 1}},
		{some(8, 0, 5, 7), 0, []int{2}},
		{put(whole(8), map[int]api.Node{11: over(11, 4, 7)}), 0, []int{1, 1, 3}},
		{put(whole(8), map[int]api.Node{11: {}, 13: over(13, 6, 7)}), 0, []int{1, 1, 4}},
		{put(whole(8), map[int]api.Node{11: {}, 13: over(13, 6, 7), 5: over(5, 3)}), 0, []int{1, 2, 4}},
		{mixed(), 6, []int{1, 1, 1}},
		{full(32), 9, []int{1, 2, 4, 8, 16}},
	} {
		m, e := path.Make(x.of, x.i, filled(32, 1), filled(32, 2), []byte{7})
		if got := counts(m.Path); e != api.OK || !slices.Equal(got, x.want) {
			t.Errorf("%d: error %d, and wrapped for %v; want %v", k, e, got, x.want)
		}
		isMadeOf(t, x.of, x.i, filled(32, 1), filled(32, 2), []byte{7})
	}
}

// P11.2: a leaf that came since the path beside it was laid is wrapped for itself, behind the Parent that doesn't know it.
func TestMakeWrapsForWhoCame(t *testing.T) {
	m, _ := path.Make(some(8, 0, 2, 3, 4), 0, filled(32, 1), filled(32, 2), nil)
	of, i, _ := tree.Add(m.Tree, 500, publicOf(seedAt(2)))
	m, e := path.Make(of, 4, filled(32, 3), filled(32, 4), nil)
	if i != 1 || e != api.OK || !slices.Equal(counts(m.Path), []int{2}) {
		t.Fatalf("leaf %d came: error %d, and\n%s", i, e, toldMade(m))
	}
	secret := filled(32, 4)
	for n, half := range [][]byte{of[3].Pub, publicOf(seedAt(2))} {
		want := wrapOf(half, labelOf(secret, "once", num4(n), 32), nil, secret)
		if got := m.Path.Step[0].For[n]; !bytes.Equal(got.Half, want.Half) || !bytes.Equal(got.B, want.B) {
			t.Errorf("%d: %x, %x; want %x, %x", n, got.Half, got.B, want.Half, want.B)
		}
	}
}

// P11.2: what is used once hangs on the path's first secret, and on how many were wrapped ahead, in all steps: no half is there twice.
func TestMakeUsesOnce(t *testing.T) {
	for _, of := range [][]api.Node{full(16), mixed(), put(whole(16), map[int]api.Node{7: over(7, 0, 2, 5), 23: {}})} {
		for _, i := range there(of) {
			m, e := path.Make(of, i, filled(32, 1), filled(32, 2), nil)
			ahead := 0
			for k, s := range m.Path.Step {
				for n, box := range s.For {
					if want := publicOf(labelOf(filled(32, 2), "once", num4(ahead), 32)); e != api.OK || !bytes.Equal(box.Half, want) {
						t.Errorf("leaf %d, step %d, %d: half %x; want %x", i, k, n, box.Half, want)
					}
					ahead++
				}
			}
			if ahead == 0 {
				t.Errorf("leaf %d: nothing was wrapped", i)
			}
		}
	}
}

// P11.2: more than 255 are wrapped for, and those of a step of the greatest tree.
func TestMakeOfGreatest(t *testing.T) {
	isMadeOf(t, full(512), 300, filled(32, 1), filled(32, 2), nil)
	of := put(whole(1024), map[int]api.Node{511: over(511, 3, 5, 500), 1535: {}, 2043: over(2043, 1020)})
	for _, i := range []int{0, 1, 511, 512, 1023} {
		isMadeOf(t, of, i, filled(32, 1), filled(32, 2), filled(100, 5))
	}
}

// P11.2: what is laid: the name stays, the Hash and all Un of the path go, and no other node is changed.
func TestMakeLaysPath(t *testing.T) {
	for _, of := range woods() {
		for _, i := range there(of) {
			m, _ := path.Make(of, i, filled(32, 1), filled(32, 2), nil)
			on := nodes(spans(of, i))
			stepped := nodes(steps(of, i))
			for x, n := range m.Tree {
				switch {
				case x == 2*i:
					if n.Kind != api.Leaf || n.Name != of[x].Name || !bytes.Equal(n.Pub, publicOf(filled(32, 1))) || len(n.Un) > 0 || (len(n.Hash) > 0) != (len(stepped) > 0) {
						t.Errorf("leaf %d is %v", i, n)
					}
				case slices.Contains(stepped, x):
					if at := slices.Index(stepped, x); n.Kind != api.Parent || !bytes.Equal(n.Pub, m.Path.Step[at].Pub) || len(n.Un) > 0 {
						t.Errorf("leaf %d, step %d is %v", i, at, n)
					}
				case slices.Contains(on, x):
					if told([]api.Node{n}) != told([]api.Node{{}}) {
						t.Errorf("leaf %d, node %d isn't Blank: %v", i, x, n)
					}
				case told([]api.Node{n}) != told(of[x:x+1]):
					t.Errorf("leaf %d, node %d is another one", i, x)
				}
			}
		}
	}
}

// P11.2: the seeds are those of the leaf and of all steps; their nodes rise, though steps go up and down.
func TestMakeTellsSeeds(t *testing.T) {
	for i, want := range [][]int{{0, 1, 3, 7}, {1, 2, 3, 7}, {3, 4, 5, 7}, {3, 5, 6, 7}, {7, 8, 9, 11}, {7, 9, 10, 11}, {7, 11, 12, 13}, {7, 11, 13, 14}} {
		m, e := path.Make(full(8), i, filled(32, 1), filled(32, 2), nil)
		var got []int
		for _, seed := range m.Own {
			got = append(got, seed.Node)
			if !bytes.Equal(publicOf(seed.Seed), m.Tree[seed.Node].Pub) {
				t.Errorf("leaf %d: the seed of node %d is %x", i, seed.Node, seed.Seed)
			}
		}
		if e != api.OK || !slices.Equal(got, want) {
			t.Errorf("leaf %d: error %d, and seeds of %v; want %v", i, e, got, want)
		}
	}
}

// P11.2: another seed changes the leaf alone, another info what was wrapped alone, and another secret all that hangs on it.
func TestMakeTellsArguments(t *testing.T) {
	of := full(4)
	seed, secret := filled(32, 1), filled(32, 2)
	m, _ := path.Make(of, 1, seed, secret, nil)
	for at := range 32 {
		other := bytes.Clone(seed)
		other[at] ^= 1
		isMadeOf(t, of, 1, other, secret, nil)
		x, _ := path.Make(of, 1, other, secret, nil)
		if bytes.Equal(x.Path.Pub, m.Path.Pub) || !bytes.Equal(x.Last, m.Last) || !bytes.Equal(x.Path.Step[1].For[1].B, m.Path.Step[1].For[1].B) {
			t.Errorf("another byte %d of the seed: %s", at, toldMade(x))
		}
		other = bytes.Clone(secret)
		other[at] ^= 1
		isMadeOf(t, of, 1, seed, other, nil)
		x, _ = path.Make(of, 1, seed, other, nil)
		if !bytes.Equal(x.Path.Pub, m.Path.Pub) || bytes.Equal(x.Last, m.Last) || bytes.Equal(x.Path.Step[1].For[1].B, m.Path.Step[1].For[1].B) {
			t.Errorf("another byte %d of the secret: %s", at, toldMade(x))
		}
	}
	for _, info := range [][]byte{{0}, {1}, {0, 0}, []byte("info"), filled(300, 1)} {
		isMadeOf(t, of, 1, seed, secret, info)
		x, _ := path.Make(of, 1, seed, secret, info)
		if told(x.Tree) != told(m.Tree) || bytes.Equal(x.Path.Step[0].For[0].B, m.Path.Step[0].For[0].B) || !bytes.Equal(x.Path.Step[0].For[0].Half, m.Path.Step[0].For[0].Half) {
			t.Errorf("info %x: %s", info, toldMade(x))
		}
	}
	x, e := path.Make(of, 1, seed, secret, []byte{})
	isMade(t, x, e, m, "info without bytes")
	x, e = path.Make(of, 1, seed, seed, nil)
	isMade(t, x, e, makeOf(of, 1, seed, seed, nil), "one row for both")
}

// P11.2: a seed, or a secret, of another length than 32, 31 and 33 among them: ahead of a leaf that there isn't.
func TestMakeRefusesLengths(t *testing.T) {
	for _, n := range []int{0, 1, 16, 31, 33, 64, 1000} {
		for _, i := range []int{0, 5, -1, 8, 1 << 40, least} {
			x, e := path.Make(mixed(), i, filled(n, 1), filled(32, 2), nil)
			isNothing(t, x, e, api.ErrArg, "seed of", n, i)
			x, e = path.Make(mixed(), i, filled(32, 1), filled(n, 2), nil)
			isNothing(t, x, e, api.ErrArg, "secret of", n, i)
			x, e = path.Make(mixed(), i, filled(n, 1), filled(n, 2), nil)
			isNothing(t, x, e, api.ErrArg, "both of", n, i)
			x, e = path.Make(mixed(), i, filled(n, 1), filled(64-n%64, 2), nil)
			isNothing(t, x, e, api.ErrArg, "seed of", n, i)
		}
		x, e := path.Make(full(1), 0, filled(32, 1), filled(n, 2), nil)
		isNothing(t, x, e, api.ErrArg, "without steps", n)
	}
}

// P11.2: leaves that there aren't, -1 and the one beyond the last among them, and Blank ones.
func TestMakeRefusesLeaves(t *testing.T) {
	isNone := func(of []api.Node, i int) {
		t.Helper()
		x, e := path.Make(of, i, filled(32, 1), filled(32, 2), nil)
		isNothing(t, x, e, api.ErrNone, i)
	}
	for _, n := range sizes() {
		for _, of := range [][]api.Node{full(n), whole(n), some(n, n-1)} {
			for _, i := range noLeaves(n) {
				isNone(of, i)
			}
		}
	}
	for _, of := range woods() {
		for i := range all(of)[1] {
			if of[2*i].Kind == api.Blank {
				isNone(of, i)
			}
		}
	}
}

// zeros is never written into, so that it takes no memory.
var zeros [api.MaxLen + 1]byte

// P11.2, P11.3: an info of more bytes than a row may have has no key that anything is wrapped under.
func TestInfoTooLong(t *testing.T) {
	x, e := path.Make(full(2), 0, filled(32, 1), filled(32, 2), zeros[:])
	isNothing(t, x, e, api.ErrArg, "too long")
	x, e = path.Make(full(2), 2, filled(32, 1), filled(32, 2), zeros[:])
	isNothing(t, x, e, api.ErrNone, "too long, of no leaf")
	x, e = path.Make(full(1), 0, filled(32, 1), filled(32, 2), zeros[:])
	isMade(t, x, e, makeOf(full(1), 0, filled(32, 1), filled(32, 2), nil), "too long, for nobody")
	m := makeOf(full(2), 0, filled(32, 1), filled(32, 2), nil)
	x, e = path.Take(full(2), 0, 1, ownOf(full(2), 1), zeros[:], m.Path)
	isNothing(t, x, e, api.ErrArg, "too long")
}
