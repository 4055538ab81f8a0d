package hash_test

import (
	"bytes"
	"testing"

	"pyx/api"
	"pyx/hash"
	"pyx/tree"
)

// isAbove asks for what stands above a child.
func isAbove(t *testing.T, of []api.Node, x, side int, want []byte) {
	t.Helper()
	got, e := hash.Above(of, x, side)
	isBytes(t, got, e, want, "Above", x, side)
}

// aboves is what stands above each child of each Parent, and digests of nothing for other nodes.
func aboves(of []api.Node) [][]byte {
	var out [][]byte
	for x := range of {
		left, _ := hash.Above(of, x, 0)
		right, _ := hash.Above(of, x, 1)
		out = append(out, left, right)
	}
	return out
}

// P10.2: of Parents with a Hash and without, with Un and without, on either side; reckoned elsewhere.
func TestAbove(t *testing.T) {
	for _, x := range []struct {
		node, side int
		want       string
	}{
		{7, 0, "9426577d0afb21161f1f64ed5d7485a94e595b30d238a8b1175a7afb4f99f648"},
		{7, 1, "6a201404b0275aabaa26667c14dd465f08d2a2b78e94387d1680060064239377"},
		{3, 0, "478b02b6b10ee4135e1a78755832421f439a1e217ce690221b423babbe6ed397"},
		{3, 1, "3b61725bfb437ca590105f81a703611bddf1b448040ddc8ade22b8e96e2c610e"},
		{13, 0, "d792f2be14f5c552deb01da9896f7974645653e802b2bf344ca365c6a13a6e13"},
		{13, 1, "c364e3a9dfdddab9da80ef049a8252c7fc8374ef16866d6d1187fbe8b49b3e79"},
	} {
		isAbove(t, mixed(), x.node, x.side, figures(t, x.want))
	}
}

// P10.2: the byte 3, the rows of the Parent's Pub and Hash, but not its Un, and the row of the digest at the other child.
func TestAboveTellsOtherChild(t *testing.T) {
	at := func(x int) []byte {
		d, _ := hash.Tree(mixed(), x)
		return d
	}
	isAbove(t, mixed(), 3, 0, sumOf([]byte{3, 32}, half(3), []byte{32}, bytesOf(32, 99), []byte{32}, at(5)))
	isAbove(t, mixed(), 3, 1, sumOf([]byte{3, 32}, half(3), []byte{32}, bytesOf(32, 99), []byte{32}, at(1)))
	isAbove(t, mixed(), 9, 0, sumOf([]byte{3, 32}, half(9), []byte{0, 32}, at(10)))
	isAbove(t, mixed(), 9, 1, sumOf([]byte{3, 32}, half(9), []byte{0, 32}, at(8)))
}

// P10.2: a leaf that is among the Parent's Un counts as Blank at the other child; on the same side it isn't looked at.
func TestAboveWithoutUn(t *testing.T) {
	head := append([]byte{3, 32}, append(half(1), 0, 32)...)
	leaf := func(i int) []byte {
		return sumOf([]byte{1, 0, byte(i), 1, 0, byte(100 + i), 32}, half(100+i), []byte{0})
	}
	blank := func(i int) []byte { return sumOf([]byte{1, 0, byte(i), 0}) }
	for _, x := range []struct {
		un          []int
		left, right []byte // what is told of the right leaf, and of the left one
	}{
		{nil, leaf(1), leaf(0)}, {[]int{0}, leaf(1), blank(0)}, {[]int{1}, blank(1), leaf(0)}, {[]int{0, 1}, blank(1), blank(0)},
	} {
		of := put(full(2), map[int]api.Node{1: over(1, x.un...)})
		isAbove(t, of, 1, 0, sumOf(head, x.left))
		isAbove(t, of, 1, 1, sumOf(head, x.right))
	}
}

// P10.2: leaves that don't count are left out of each Un below, and only those; nodes that tell other ones go on to.
func TestAboveWithoutUnOfEachNode(t *testing.T) {
	of := put(whole(8), map[int]api.Node{7: over(7, 5, 6), 11: over(11, 4, 5, 6, 7), 9: over(9, 5), 13: over(13, 6, 7)})
	other := put(of, map[int]api.Node{10: {}, 12: {}, 11: over(11, 4, 7), 9: over(9), 13: over(13, 7)})
	isAbove(t, of, 7, 0, sumOf([]byte{3, 32}, half(7), []byte{0, 32}, digestOf(other, span{4, 8})))
	isAbove(t, of, 7, 1, sumOf([]byte{3, 32}, half(7), []byte{0, 32}, digestOf(of, span{0, 4})))
	// What one Parent's Un tells doesn't count for it alone.
	isAbove(t, of, 11, 0, sumOf([]byte{3, 32}, half(11), []byte{0, 32}, digestOf(put(of, map[int]api.Node{12: {}, 14: {}, 13: over(13)}), span{6, 8})))
	isAbove(t, of, 13, 0, sumOf([]byte{3, 32}, half(13), []byte{0, 32}, sumOf([]byte{1, 0, 7, 0})))
	isAbove(t, of, 3, 0, sumOf([]byte{3, 32}, half(3), []byte{0, 32}, digestOf(of, span{2, 4})))
}

// P10.2: a leaf that comes behind a path was laid is among its Un, so that what stands above stays.
func TestAboveStaysWhenLeavesCome(t *testing.T) {
	of := put(some(8, 0, 3, 4, 6), map[int]api.Node{3: over(3), 7: hashed(over(7)), 11: over(11, 6), 13: over(13)})
	want := aboves(of)
	for _, name := range []int{5, 6, 7, 8} {
		added, _, e := tree.Add(of, name, half(name))
		if e != api.OK || len(added) != len(of) {
			t.Fatal(e)
		}
		of = added
		for i, got := range aboves(of) {
			if !bytes.Equal(got, want[i]) {
				t.Errorf("leaf %d came, and above child %d of node %d another digest", name, i%2, i/2)
			}
		}
	}
	if len(of[7].Un) != 4 || len(of[11].Un) != 3 {
		t.Error(told(of))
	}
}

// P10.2: the Parent's Pub and Hash count, and all below the other child; nothing on the child's own side, nor above.
func TestAboveTellsWhatCounts(t *testing.T) {
	of := whole(8)
	for x := range of {
		for i, other := range []api.Node{hashed(of[x]), {Kind: of[x].Kind, Name: of[x].Name, Pub: half(77)}} {
			got := aboves(put(of, map[int]api.Node{x: other}))
			for j, was := range aboves(of) {
				s, is := all(of).under()[j/2]
				if !is || s.isLeaf() {
					continue
				}
				_, isOther := s.halves()[1-j%2].under()[x]
				if bytes.Equal(got[j], was) == (isOther || x == j/2) {
					t.Errorf("node %d is changed (%d): above child %d of node %d: %v", x, i, j%2, j/2, !isOther)
				}
			}
		}
	}
}

// P10.2: of each Parent of trees of all kinds, on both sides, as the model has it.
func TestAboveAsModel(t *testing.T) {
	for _, of := range woods() {
		for x, s := range all(of).under() {
			if of[x].Kind == api.Parent {
				isAbove(t, of, x, 0, aboveOf(of, s, 0))
				isAbove(t, of, x, 1, aboveOf(of, s, 1))
			}
		}
	}
}

// P10.2: of the greatest tree, with Un of none, one and all.
func TestAboveOfGreatest(t *testing.T) {
	for _, un := range [][]int{nil, {0}, {1023}, {511, 512}, upTo(1024)} {
		of := put(whole(1024), map[int]api.Node{1023: over(1, un...), 511: over(2, upTo(512)...)})
		isAbove(t, of, 1023, 0, aboveOf(of, span{0, 1024}, 0))
		isAbove(t, of, 1023, 1, aboveOf(of, span{0, 1024}, 1))
		isAbove(t, of, 2045, 1, aboveOf(of, span{1022, 1024}, 1))
	}
}

// noSides are numbers that are no side.
func noSides() []int { return []int{-1, 2, 3, 256, -2, 1 << 32, 1<<32 + 1, least, least + 1, greatest} }

// P10.2: nodes that there aren't, and sides that are neither, be the node a Parent or not.
func TestAboveRefusesArguments(t *testing.T) {
	refused := func(of []api.Node, x, side int) {
		t.Helper()
		got, e := hash.Above(of, x, side)
		isRefused(t, got, e, api.ErrArg, "Above", len(of), x, side)
	}
	for _, n := range sizes() {
		for _, of := range [][]api.Node{full(n), whole(n)} {
			for _, x := range noNodes(n) {
				refused(of, x, 0)
				refused(of, x, 1)
				refused(of, x, 2)
			}
			for _, side := range noSides() {
				refused(of, 0, side)
				refused(of, n-1, side)
			}
		}
	}
	for x := range mixed() {
		for _, side := range noSides() {
			refused(mixed(), x, side)
		}
	}
}

// P10.2: nodes that aren't Parents: leaves, Blank ones, and Blank nodes over others.
func TestAboveRefusesOthers(t *testing.T) {
	for _, of := range woods() {
		for x, n := range of {
			for side := range 2 {
				if n.Kind != api.Parent {
					got, e := hash.Above(of, x, side)
					isRefused(t, got, e, api.ErrNone, "Above", x, side)
				}
			}
		}
	}
}
