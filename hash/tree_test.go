package hash_test

import (
	"bytes"
	"slices"
	"testing"

	"pyx/api"
	"pyx/hash"
	"pyx/tree"
)

// isDigest asks for a tree's digest at a node.
func isDigest(t *testing.T, of []api.Node, x int, want []byte) {
	t.Helper()
	got, e := hash.Tree(of, x)
	isBytes(t, got, e, want, "Tree", x)
}

// woods are right trees of all kinds.
func woods() [][]api.Node {
	out := [][]api.Node{
		mixed(), {hashed(leafOf(0))}, some(8, 0), some(8, 7), some(16, 3, 12), whole(32),
		put(whole(8), map[int]api.Node{7: over(7, upTo(8)...), 3: over(3, 0, 1, 2, 3), 1: over(1, 0, 1), 13: over(13, 6, 7)}),
		put(whole(8), map[int]api.Node{7: over(7), 3: over(3, 0), 1: over(1, 0, 1), 11: {}, 13: over(13, 7)}),
	}
	for _, n := range []int{1, 2, 4, 8, 16} {
		out = append(out, full(n), whole(n))
	}
	return out
}

// P10.1: of one leaf: the byte 1, its place, and its bytes.
func TestTreeOfOne(t *testing.T) {
	isDigest(t, full(1), 0, figures(t, "95c270a670957e9190e895e5b2bd2e6ca01625666c9cc08e8f678d2c12657896"))
	isDigest(t, full(1), 0, sumOf([]byte{1, 0, 0, 1, 0, 100, 32}, half(100), []byte{0}))
	isDigest(t, []api.Node{hashed(leafOf(65535))}, 0, sumOf([]byte{1, 0, 0, 1, 255, 255, 32}, half(65535), []byte{32}, bytesOf(32, 99)))
}

// P10.1: at a leaf its place among the leaves, not its node's, is told, in 2 bytes; a Blank one's too.
func TestTreeAtLeaf(t *testing.T) {
	isDigest(t, mixed(), 10, figures(t, "91a377d9566948dab255bc8b327a5817faee41b99fb3a74a4a69dae17f8fe6f2"))
	isDigest(t, mixed(), 2, figures(t, "8b8fde33ee6abf051032cd313a3e69bd547e66471c589ff789f1b3e92124b403"))
	isDigest(t, mixed(), 10, sumOf([]byte{1, 0, 5, 0}))
	isDigest(t, mixed(), 6, sumOf([]byte{1, 0, 3, 1, 0, 103, 32}, half(103), []byte{0}))
	isDigest(t, full(1024), 2046, sumOf([]byte{1, 3, 255, 1, 4, 99, 32}, half(1123), []byte{0}))
	isDigest(t, some(1024, 0), 2046, sumOf([]byte{1, 3, 255, 0}))
	isDigest(t, some(1024, 0), 512, sumOf([]byte{1, 1, 0, 0}))
}

// P10.1: at a Blank node between: the byte 2, its bytes, which are 00, and the rows of both digests below.
func TestTreeAtBlank(t *testing.T) {
	isDigest(t, mixed(), 11, figures(t, "a26d8accfb536f7ab7cc93b1f02a419a52a552c19e3e7f2f8ddbff1b0b8e8c4c"))
	at := func(x int) []byte {
		d, _ := hash.Tree(mixed(), x)
		return d
	}
	isDigest(t, mixed(), 11, sumOf([]byte{2, 0, 32}, at(9), []byte{32}, at(13)))
	isDigest(t, mixed(), 5, sumOf([]byte{2, 0, 32}, at(4), []byte{32}, at(6)))
	isDigest(t, some(4, 0), 5, sumOf([]byte{2, 0, 32}, sumOf([]byte{1, 0, 2, 0}), []byte{32}, sumOf([]byte{1, 0, 3, 0})))
}

// P10.1: at a Parent its rows, its Un among them, stand ahead of the digests below; all leaves count.
func TestTreeAtParent(t *testing.T) {
	isDigest(t, mixed(), 7, figures(t, "80741484342949eae4ca269e9569b41a1e09bb31a570f8f370be75b543e4d625"))
	at := func(x int) []byte {
		d, _ := hash.Tree(mixed(), x)
		return d
	}
	isDigest(t, mixed(), 7, sumOf([]byte{2, 2, 32}, half(7), []byte{0, 8, 0, 0, 0, 3, 0, 4, 0, 7, 32}, at(3), []byte{32}, at(11)))
	isDigest(t, mixed(), 13, sumOf([]byte{2, 2, 32}, half(13), []byte{32}, bytesOf(32, 99), []byte{4, 0, 6, 0, 7, 32}, at(12), []byte{32}, at(14)))
	isDigest(t, mixed(), 9, sumOf([]byte{2, 2, 32}, half(9), []byte{0, 0, 32}, at(8), []byte{32}, at(10)))
}

// P10.1: at each node of trees of all kinds, as the model has it.
func TestTreeAsModel(t *testing.T) {
	for _, of := range woods() {
		for x, s := range all(of).under() {
			isDigest(t, of, x, digestOf(of, s))
		}
	}
}

// P10.1: at the root of each size; of the greatest tree, all of whose leaves the root tells as its Un.
func TestTreeOfSizes(t *testing.T) {
	for _, n := range sizes() {
		for _, of := range [][]api.Node{some(n, 0), some(n, n-1), full(n), whole(n)} {
			isDigest(t, of, n-1, digestOf(of, all(of)))
		}
	}
	of := put(whole(1024), map[int]api.Node{1023: over(1, upTo(1024)...)})
	isDigest(t, of, 1023, digestOf(of, all(of)))
}

// P10.1: nodes that there aren't.
func TestTreeRefuses(t *testing.T) {
	for _, n := range sizes() {
		for _, of := range [][]api.Node{full(n), whole(n)} {
			for _, x := range noNodes(n) {
				got, e := hash.Tree(of, x)
				isRefused(t, got, e, api.ErrArg, "Tree", n, x)
			}
		}
	}
}

// changed are a tree, and right ones that differ from it, and from one another, in one thing, or in where two things stand.
func changed(of []api.Node) [][]api.Node {
	out := [][]api.Node{of}
	change := func(do func(t []api.Node)) {
		other := clonedAll(of)
		do(other)
		if tree.Right(other) && !slices.ContainsFunc(out, func(had []api.Node) bool { return tree.Same(had, other) }) {
			out = append(out, other)
		}
	}
	for x, n := range of {
		for _, to := range []api.Node{{}, leafOf(7), over(7)} {
			change(func(t []api.Node) { t[x] = to })
		}
		change(func(t []api.Node) { t[x].Name += 500 })
		change(func(t []api.Node) { t[x].Hash = half(3) })
		change(func(t []api.Node) { t[x].Hash = nil })
		for i := range 8 {
			change(func(t []api.Node) { t[x].Un = append(t[x].Un, i) })
			change(func(t []api.Node) { t[x].Un = slices.DeleteFunc(t[x].Un, func(k int) bool { return k == i }) })
		}
		for i := range n.Pub {
			change(func(t []api.Node) { t[x].Pub[i] ^= 1 })
		}
		for i := range n.Hash {
			change(func(t []api.Node) { t[x].Hash[i] ^= 128 })
		}
		for y := range x {
			change(func(t []api.Node) { t[x], t[y] = t[y], t[x] })
		}
	}
	return out
}

// P10.5: trees that aren't the same have other digests: of all of a node's rows, and of where it stands.
func TestTreesTellThemselves(t *testing.T) {
	var seen [][]byte
	trees := slices.Concat(changed(mixed()), [][]api.Node{full(8), full(4), full(16), some(16, upTo(8)...), full(1), some(2, 0), some(2, 1)})
	for i, of := range trees {
		got, e := hash.Tree(of, all(of).node())
		if e != api.OK || !tree.Right(of) {
			t.Fatalf("tree %d: error %d", i, e)
		}
		if had := slices.IndexFunc(seen, func(d []byte) bool { return bytes.Equal(d, got) }); had >= 0 {
			t.Errorf("the same digest:\n%sand\n%s", told(trees[had]), told(of))
		}
		seen = append(seen, got)
	}
	if len(seen) < 400 {
		t.Errorf("of %d trees only", len(seen))
	}
}
