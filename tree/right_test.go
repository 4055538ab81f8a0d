package tree_test

import (
	"bytes"
	"slices"
	"testing"

	"pyx/api"
	"pyx/tree"
)

// isRight asks that a row of nodes is right.
func isRight(t *testing.T, of []api.Node, what ...any) {
	t.Helper()
	if !tree.Right(of) {
		t.Errorf("%v: isn't right:\n%s", what, told(of))
	}
}

// isWrong asks that a row of nodes isn't right.
func isWrong(t *testing.T, of []api.Node, what ...any) {
	t.Helper()
	if tree.Right(of) {
		t.Errorf("%v: is right:\n%s", what, told(of))
	}
}

// P9.1: trees of each size, with one leaf, with some, and with all of them.
func TestRight(t *testing.T) {
	for _, n := range sizes() {
		isRight(t, full(n), "all of", n)
		isRight(t, laid(n, 0), "the first of", n)
		isRight(t, laid(n, n-1), "the last of", n)
		isRight(t, laid(n, n/2), "the middle of", n)
		isRight(t, put(full(n), map[int]api.Node{2*n - 2: hashed(leafOf(5))}), "a Hash of", n)
		if n > 1 {
			isRight(t, put(full(n), map[int]api.Node{n - 1: over(1)}), "all know the root of", n)
			isRight(t, put(full(n), map[int]api.Node{n - 1: hashed(over(1, upTo(n)...))}), "none knows the root of", n)
			isRight(t, put(full(n), map[int]api.Node{1: over(1, 1), n - 1: hashed(over(1, 0, n-1))}), "some know the root of", n)
		}
	}
	isRight(t, mixed())
}

// P9.1: the least and the greatest name; 0 beside Blank nodes, and Parents, that have it too.
func TestRightNames(t *testing.T) {
	of := mixed()
	of[0].Name, of[12].Name = 0, 65535
	isRight(t, of)
	of[0].Name, of[12].Name = 65535, 0
	isRight(t, of)
}

// P9.1: rows without elements are none, nil or not; a Parent may stand over Blank leaves alone, and a tree need not be as small as it may.
func TestRightOfWhatMayBe(t *testing.T) {
	of := mixed()
	for x := range of {
		if of[x].Kind == api.Blank {
			of[x].Pub, of[x].Hash = []byte{}, []byte{}
		}
		if len(of[x].Un) == 0 {
			of[x].Un = []int{}
		}
		if len(of[x].Hash) == 0 {
			of[x].Hash = []byte{}
		}
	}
	isRight(t, of)
	isRight(t, put(laid(8, 0, 1), map[int]api.Node{13: over(1), 11: over(2), 7: over(3, 1)}))
	isRight(t, put(laid(8, 6), map[int]api.Node{3: hashed(over(1)), 1: over(2), 7: over(3, 6)}))
}

// P9.1: rows of as many nodes as no tree has: the empty one, and all others up to beyond the greatest tree.
func TestRightRefusesLengths(t *testing.T) {
	isWrong(t, nil)
	isWrong(t, []api.Node{})
	whole := full(4096)
	for i := range 4096 {
		whole[2*i].Name = i
	}
	for n := range 4200 {
		if slices.Contains(sizes(), (n+1)/2) && n%2 == 1 {
			isRight(t, whole[:n], n)
		} else if tree.Right(whole[:n]) {
			t.Errorf("%d nodes are right", n)
		}
	}
	isWrong(t, whole)
}

// P9.1: a tree whose leaves are all Blank, also where Parents stand over them.
func TestRightRefusesNoLeaf(t *testing.T) {
	for _, n := range sizes() {
		isWrong(t, laid(n), n)
		if n > 1 {
			isWrong(t, put(laid(n), map[int]api.Node{n - 1: over(1)}), n)
		}
	}
}

// fault is one thing of a node that is not right.
type fault struct {
	name string
	do   func(n *api.Node)
}

// numbered are faults that put numbers where others have to be.
func numbered(name string, do func(n *api.Node, to int), to ...int) []fault {
	var out []fault
	for _, x := range to {
		out = append(out, fault{name, func(n *api.Node) { do(n, x) }})
	}
	return out
}

func setName(n *api.Node, to int) { n.Name = to }
func setKind(n *api.Node, to int) { n.Kind = to }
func setPub(n *api.Node, to int)  { n.Pub = row(to, 5) }
func setHash(n *api.Node, to int) { n.Hash = row(to, 5) }
func setUn(n *api.Node, to int)   { n.Un = []int{to} }

// areWrong asks that a tree that is right isn't any more with one of the faults at one of the places.
func areWrong(t *testing.T, of []api.Node, places []int, faults ...[]fault) {
	t.Helper()
	isRight(t, of)
	for _, f := range slices.Concat(faults...) {
		for _, x := range places {
			bad := clonedAll(of)
			f.do(&bad[x])
			isWrong(t, bad, "fault", f.name, "at node", x)
		}
	}
}

// P9.1: kinds that there aren't, and such that may not stand where they do.
func TestRightRefusesKinds(t *testing.T) {
	of := mixed()
	leaves, parents := []int{0, 2, 4, 6, 8, 12, 14}, []int{1, 3, 7, 9, 13}
	areWrong(t, of, slices.Concat(leaves, parents), numbered("kind", setKind, 3, -1, 4, 256, 257, 258, least, greatest, 1<<32+1, 1<<32+2))
	areWrong(t, of, leaves, numbered("over others", setKind, api.Parent))
	areWrong(t, of, parents, numbered("leaf", setKind, api.Leaf))
	areWrong(t, of, []int{5, 10, 11}, numbered("not Blank, but nothing else", setKind, 1, 2, 3, -1, least, greatest))
	isWrong(t, put(of, map[int]api.Node{10: over(1)}), "a Parent at a leaf's place")
	isWrong(t, put(of, map[int]api.Node{5: leafOf(5)}), "a leaf at a Parent's place")
	isWrong(t, put(of, map[int]api.Node{11: leafOf(0)}), "a leaf of name 0 at a Parent's place")
	isWrong(t, []api.Node{over(1)}, "a Parent alone")
}

// P9.1: a Blank node, of a leaf and over others, that has something.
func TestRightRefusesBlankWithSomething(t *testing.T) {
	of := put(mixed(), map[int]api.Node{7: {}})
	areWrong(t, of, []int{5, 7, 10, 11},
		numbered("name", setName, 1, -1, 5, 65535, 65536, least, greatest),
		numbered("pub", setPub, 1, 31, 32, 33),
		numbered("hash", setHash, 1, 31, 32, 33),
		numbered("un", setUn, 0, 2, 3, 4, 5, -1))
	areWrong(t, of, []int{0, 1, 3, 4, 12}, numbered("blank", setKind, api.Blank))
}

// P9.1: a leaf of a name that may not be, of other lengths, or with Un.
func TestRightRefusesLeaves(t *testing.T) {
	for _, of := range [][]api.Node{mixed(), full(8)} {
		areWrong(t, of, []int{0, 2, 8, 12, 14},
			numbered("name", setName, wrongNames()...),
			numbered("pub", setPub, wrongLengths()...),
			numbered("hash", setHash, 1, 16, 31, 33, 64),
			numbered("un", setUn, 0, 1, 2, 4, 6, 7, -1, 8))
	}
	areWrong(t, full(1), []int{0},
		numbered("name", setName, wrongNames()...),
		numbered("pub", setPub, wrongLengths()...),
		numbered("hash", setHash, 1, 16, 31, 33, 64),
		numbered("un", setUn, 0, 1, -1))
}

// P9.1: a name that another leaf has, beside it, far from it, and more than twice.
func TestRightRefusesNamesTwice(t *testing.T) {
	for i := range 8 {
		for other := range 8 {
			if i != other {
				areWrong(t, full(8), []int{2 * i}, numbered("another's name", setName, 100+other))
			}
		}
	}
	areWrong(t, full(1024), []int{0}, numbered("another's name", setName, 101, 611, 100+1023))
	of := full(4)
	for i := range 4 {
		of[2*i].Name = 0
	}
	isWrong(t, of)
}

// P9.1: a Parent with a name, or of other lengths.
func TestRightRefusesParents(t *testing.T) {
	areWrong(t, mixed(), []int{1, 3, 7, 9, 13},
		numbered("name", setName, 1, -1, 5, 100, 65535, 65536, least, greatest),
		numbered("pub", setPub, wrongLengths()...),
		numbered("hash", setHash, 1, 16, 31, 33, 64))
}

// P9.1: Un that aren't leaves below, or are Blank.
func TestRightRefusesUn(t *testing.T) {
	of := mixed()
	areWrong(t, of, []int{1, 3, 7, 9, 13}, numbered("no leaf", setUn, 5, 8, -1, 9, 15, 1024, least, greatest, 1<<32, 1<<32+3, 1<<63-2))
	areWrong(t, of, []int{1}, numbered("not below", setUn, 2, 3, 4, 6, 7))
	areWrong(t, of, []int{3}, numbered("not below", setUn, 4, 6, 7))
	areWrong(t, of, []int{9}, numbered("not below", setUn, 0, 1, 2, 3, 6, 7))
	areWrong(t, of, []int{13}, numbered("not below", setUn, 0, 1, 2, 3, 4))
	areWrong(t, put(laid(4, 0, 3), map[int]api.Node{3: over(1)}), []int{3}, numbered("Blank", setUn, 1, 2))
}

// P9.1: Un that don't rise, or are told twice, or of which one alone isn't such.
func TestRightRefusesUnInDisorder(t *testing.T) {
	for _, un := range [][]int{
		{0, 0}, {7, 7}, {1, 0}, {7, 6}, {0, 2, 1}, {0, 1, 1, 2}, {0, 1, 2, 3, 4, 6, 7, 7}, {7, 0}, {0, 7, 0}, {6, 7, 0, 1},
		{0, 5}, {5, 6}, {-1, 0}, {6, 7, 8}, {0, 1, 2, 3, 4, 5, 6, 7}, {greatest, least}, {least, 0, 1}, {0, 1, greatest},
	} {
		isWrong(t, put(mixed(), map[int]api.Node{7: over(1, un...)}), un)
	}
	for _, un := range [][]int{{}, {0}, {7}, {0, 7}, {0, 1, 2, 3, 4, 6, 7}, {4, 6}} {
		isRight(t, put(mixed(), map[int]api.Node{7: over(1, un...)}), un)
	}
}

// P9.1: Same, of rows of nodes that are the same, and of such of which one thing is another.
func TestSame(t *testing.T) {
	for _, of := range [][]api.Node{nil, mixed(), full(1), full(8), laid(8), {{Kind: 3, Name: -1, Un: []int{least}}, {}}} {
		if !tree.Same(of, clonedAll(of)) || !tree.Same(clonedAll(of), of) {
			t.Errorf("isn't the same as itself:\n%s", told(of))
		}
	}
	changes := slices.Concat(
		numbered("kind", func(n *api.Node, by int) { n.Kind += by }, 1, -1, 3, 1<<32),
		numbered("name", func(n *api.Node, by int) { n.Name += by }, 1, -1, 65536, 1<<32),
		numbered("more pub", func(n *api.Node, to int) { n.Pub = append(n.Pub, byte(to)) }, 0, 1),
		numbered("more hash", func(n *api.Node, to int) { n.Hash = append(n.Hash, byte(to)) }, 0, 1),
		numbered("more un", func(n *api.Node, to int) { n.Un = append(n.Un, to) }, 0, 1, -1))
	for x := range mixed() {
		for _, f := range changes {
			other := mixed()
			f.do(&other[x])
			if tree.Same(mixed(), other) || tree.Same(other, mixed()) {
				t.Errorf("the same in spite of %s at node %d", f.name, x)
			}
		}
	}
}

// P9.1: rows of another length aren't the same, be it only that Blank nodes follow.
func TestSameAsksForLengths(t *testing.T) {
	of := append(mixed(), api.Node{}, api.Node{})
	for n := range len(of) {
		if tree.Same(of, of[:n]) || tree.Same(of[:n], of) {
			t.Errorf("the same as its first %d", n)
		}
	}
	if tree.Same(nil, []api.Node{{}}) || tree.Same([]api.Node{{}}, nil) {
		t.Error("none is the same as a Blank one")
	}
	if !tree.Same(nil, []api.Node{}) || !tree.Same([]api.Node{}, nil) {
		t.Error("none isn't the same as none")
	}
}

// P9.1: each byte, and each number, of a row counts; a list without elements may be nil.
func TestSameAsksForBytes(t *testing.T) {
	n := hashed(over(1, 3, 4, 5))
	for i := range 32 {
		pub, hash := cloned(n), cloned(n)
		pub.Pub[i] ^= 1
		isOther(t, n, pub)
		hash.Hash[i] ^= 128
		isOther(t, n, hash)
	}
	for i := range 3 {
		other := cloned(n)
		other.Un[i]++
		isOther(t, n, other)
	}
	shorter := cloned(n)
	shorter.Un = shorter.Un[:2]
	isOther(t, n, shorter)
	swapped := cloned(n)
	swapped.Pub, swapped.Hash = n.Hash, n.Pub
	isOther(t, n, swapped)
	if bytes.Equal(n.Pub, n.Hash) || !tree.Same([]api.Node{{}}, []api.Node{{Pub: []byte{}, Un: []int{}, Hash: []byte{}}}) {
		t.Error("rows without elements aren't the same as none")
	}
}

// isOther asks that two nodes aren't the same.
func isOther(t *testing.T, a, b api.Node) {
	t.Helper()
	if tree.Same([]api.Node{a}, []api.Node{b}) || tree.Same([]api.Node{b}, []api.Node{a}) {
		t.Errorf("the same:\n%s%s", told([]api.Node{a}), told([]api.Node{b}))
	}
}
