package hash_test

import (
	"testing"

	"pyx/api"
	"pyx/hash"
	"pyx/tree"
)

// isLaid asks for a tree in which a leaf's path is laid.
func isLaid(t *testing.T, of []api.Node, i int, want []api.Node) {
	t.Helper()
	got, e := hash.Laid(of, i)
	if e != api.OK || told(got) != told(want) {
		t.Errorf("Laid(%d): error %d, and\n%swant\n%s", i, e, told(got), told(want))
	}
}

// isNotLaid asks that a path isn't laid, and that the tree is what it was.
func isNotLaid(t *testing.T, of []api.Node, i int) {
	t.Helper()
	got, e := hash.Laid(of, i)
	if e != api.ErrNone || told(got) != told(of) {
		t.Errorf("Laid(%d): error %d, and\n%s", i, e, told(got))
	}
}

// withHash is a tree with another Hash at a node.
func withHash(of []api.Node, x int, sum []byte) []api.Node {
	out := clonedAll(of)
	out[x].Hash = sum
	return out
}

// P10.3: a tree of one leaf, whose Hash goes.
func TestLaidOfOne(t *testing.T) {
	isLaid(t, full(1), 0, full(1))
	isLaid(t, []api.Node{hashed(leafOf(100))}, 0, full(1))
}

// P10.3: of a path no node of which is a Parent, the leaf's Hash is none; others keep theirs.
func TestLaidWithoutParents(t *testing.T) {
	for i := range 8 {
		isLaid(t, full(8), i, full(8))
		of := full(8)
		for k := range 8 {
			of[2*k] = hashed(of[2*k])
		}
		isLaid(t, of, i, withHash(of, 2*i, nil))
	}
	of := put(full(4), map[int]api.Node{0: hashed(leafOf(100)), 5: hashed(over(5))})
	isLaid(t, of, 0, withHash(of, 0, nil))
}

// P10.3: one Parent, at the root, in the middle, and right over the leaf: its own Hash goes, and the leaf tells it.
func TestLaidWithOne(t *testing.T) {
	for i := range 8 {
		for _, s := range path(full(8), i) {
			of := put(full(8), map[int]api.Node{s.node(): hashed(over(5))})
			want := withHash(of, s.node(), nil)
			isLaid(t, of, i, withHash(want, 2*i, aboveOf(want, s, s.side(i))))
		}
	}
}

// P10.3: a path all of which is Parents: each node tells the one right over it, from the root down.
func TestLaidWithAll(t *testing.T) {
	of := whole(8)
	for x := range of {
		of[x] = hashed(of[x])
	}
	for i := range 8 {
		want := clonedAll(of)
		spans := path(of, i)
		want[spans[0].node()].Hash = nil
		want[spans[1].node()].Hash = aboveOf(want, spans[0], spans[0].side(i))
		want[spans[2].node()].Hash = aboveOf(want, spans[1], spans[1].side(i))
		want[2*i].Hash = aboveOf(want, spans[2], spans[2].side(i))
		isLaid(t, of, i, want)
	}
}

// P10.3: a Blank node between two Parents is left out, and stays Blank: the lower one tells the upper one, on the side of the leaf.
func TestLaidWithBlankBetween(t *testing.T) {
	for i := range 8 {
		of := whole(8)
		spans := path(of, i)
		of[spans[1].node()] = api.Node{}
		want := clonedAll(of)
		want[spans[2].node()].Hash = aboveOf(want, spans[0], spans[0].side(i))
		want[2*i].Hash = aboveOf(want, spans[2], spans[2].side(i))
		isLaid(t, of, i, want)
	}
}

// P10.3: what is laid of a tree with Un and Hashes is as reckoned elsewhere.
func TestLaidOfMixed(t *testing.T) {
	got, e := hash.Laid(mixed(), 2)
	isBytes(t, got[3].Hash, e, figures(t, "9426577d0afb21161f1f64ed5d7485a94e595b30d238a8b1175a7afb4f99f648"), 3)
	isBytes(t, got[4].Hash, e, figures(t, "48836b311523981a8248c81a7fe1f69d12967cd2585873c3a42138ad6a8394d8"), 4)
	isDigest(t, got, 7, figures(t, "77524b4b9722401081a5c14371b10810c48ac5b732b662ad5db7d8d78fbd2dcb"))
}

// P10.3: each leaf of trees of all kinds, as the model has it; nodes that aren't on its path stay.
func TestLaidAsModel(t *testing.T) {
	for _, of := range woods() {
		for i := range all(of)[1] {
			if of[2*i].Kind == api.Blank {
				isNotLaid(t, of, i)
				continue
			}
			want := laidOf(of, i)
			isLaid(t, of, i, want)
			if !tree.Right(want) {
				t.Errorf("leaf %d is laid, and the tree isn't right any more", i)
			}
			isLaid(t, want, i, want)
		}
	}
}

// P10.3: the last leaf, the first, and others of the greatest tree.
func TestLaidOfGreatest(t *testing.T) {
	of := put(whole(1024), map[int]api.Node{1023: over(1, 2, 1022), 511: {}})
	for _, i := range []int{0, 1, 511, 512, 1023} {
		isLaid(t, of, i, laidOf(of, i))
	}
}

// P10.3: leaves that there aren't, and Blank ones.
func TestLaidRefuses(t *testing.T) {
	for _, n := range sizes() {
		for _, of := range [][]api.Node{full(n), whole(n), some(n, 0)} {
			for _, i := range []int{-1, -2, n, n + 1, 2*n - 1, 2 * n, 1024, 2047, 1 << 32, least, least + 1, least / 2, greatest, greatest - 1, greatest/2 + 1, -n} {
				if i < 0 || i >= n {
					isNotLaid(t, of, i)
				}
			}
		}
	}
	isNotLaid(t, mixed(), 5)
	isNotLaid(t, put(whole(4), map[int]api.Node{2: {}}), 1)
	isNotLaid(t, some(2, 1), 0)
}
