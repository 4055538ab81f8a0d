package tree_test

import (
	"testing"

	"pyx/api"
	"pyx/tree"
)

// isRemoved asks that a leaf goes, and that the tree is that one then.
func isRemoved(t *testing.T, of []api.Node, i int, want []api.Node) {
	t.Helper()
	got, e := tree.Remove(of, i)
	isTree(t, got, e, want, "Remove", i)
}

// isNotRemoved asks that a leaf doesn't go, and that the tree is what it was.
func isNotRemoved(t *testing.T, of []api.Node, i int, want api.Errno) {
	t.Helper()
	got, e := tree.Remove(of, i)
	isKept(t, got, e, want, of, "Remove", i)
}

// wrongLeaves are numbers that are no leaves of a tree of n.
func wrongLeaves(n int) []int {
	return []int{-1, n, n + 1, 2*n - 1, 2 * n, -n, 1024, 2047, 1 << 32, 1 << 62, 1<<62 + 1, least, least + 1, greatest, greatest - 1, -1 << 32}
}

// P9.3: a leaf from the middle: it is Blank, with its path; no other node is another one, and the tree doesn't shrink.
func TestRemoveFromMiddle(t *testing.T) {
	isRemoved(t, mixed(), 0, put(mixed(), map[int]api.Node{0: {}, 1: {}, 3: {}, 7: {}}))
	isRemoved(t, mixed(), 1, put(mixed(), map[int]api.Node{2: {}, 1: {}, 3: {}, 7: {}}))
	isRemoved(t, mixed(), 2, put(mixed(), map[int]api.Node{4: {}, 3: {}, 7: {}}))
	isRemoved(t, mixed(), 3, put(mixed(), map[int]api.Node{6: {}, 3: {}, 7: {}}))
	isRemoved(t, mixed(), 4, put(mixed(), map[int]api.Node{8: {}, 9: {}, 7: {}}))
	isRemoved(t, mixed(), 6, put(mixed(), map[int]api.Node{12: {}, 13: {}, 7: {}}))
	isRemoved(t, mixed(), 7, put(mixed(), map[int]api.Node{14: {}, 13: {}, 7: {}}))
}

// P9.3: the first leaf, when all others of the left half are Blank: the tree doesn't lose that half.
func TestRemoveKeepsLeftHalf(t *testing.T) {
	isRemoved(t, laid(8, 0, 4), 0, laid(8, 4))
	isRemoved(t, laid(8, 0, 7), 0, laid(8, 7))
	isRemoved(t, laid(2, 0, 1), 0, laid(2, 1))
	isRemoved(t, full(1024), 0, put(full(1024), map[int]api.Node{0: {}}))
}

// P9.3: the only leaf of the right half: the tree is the left half, whose nodes stay, its root too.
func TestRemoveShrinks(t *testing.T) {
	of := append(put(full(4), map[int]api.Node{1: over(1, 1), 2: hashed(leafOf(101)), 3: hashed(over(3, 2)), 5: over(5)}), laid(4)...)
	of = append(of, api.Node{})
	left := clonedAll(of[:7])
	for i := range 4 {
		whole := put(of, map[int]api.Node{8 + 2*i: hashed(leafOf(104 + i)), 7: over(7, 0, 4+i), 11: over(11)})
		isRemoved(t, whole, 4+i, left)
	}
	for _, n := range sizes()[:10] {
		last := put(append(full(n), make([]api.Node, 2*n)...), map[int]api.Node{2 * n: leafOf(5)})
		isRemoved(t, last, n, full(n))
	}
}

// P9.3: the only leaf far to the right: the tree shrinks several times over, until a leaf is in its right half, or it is one leaf.
func TestRemoveShrinksAgain(t *testing.T) {
	for _, n := range sizes()[1:] {
		isRemoved(t, laid(n, 0, n-1), n-1, full(1))
		isRemoved(t, laid(n, 0, n/2), n/2, full(1))
	}
	for i := 1; i < 512; i++ {
		size := 2
		for size <= i {
			size *= 2
		}
		isRemoved(t, laid(1024, i, 1000), 1000, laid(size, i))
	}
	isRemoved(t, laid(8, 0, 2, 7), 7, laid(4, 0, 2))
	isRemoved(t, put(laid(16, 0, 1, 12), map[int]api.Node{1: over(1, 1), 3: over(3), 7: over(7), 15: over(15)}), 12, put(laid(2, 0, 1), map[int]api.Node{1: over(1, 1)}))
}

// P9.3: leaves alone count where a tree shrinks: Parents over Blank ones don't hold it, and it may do so by a leaf of its left half.
func TestRemoveAsksForLeavesAlone(t *testing.T) {
	isRemoved(t, put(laid(8, 0, 1), map[int]api.Node{13: over(1), 11: over(2), 7: over(3)}), 1, full(1))
	isRemoved(t, put(laid(8, 0, 2, 3), map[int]api.Node{13: over(1), 5: over(5, 3), 7: over(3)}), 0, put(laid(4, 2, 3), map[int]api.Node{5: over(5, 3)}))
}

// P9.3: from the last leaf to the first one: the tree is as small as it may be at each moment.
func TestRemoveAll(t *testing.T) {
	of, size := full(64), 64
	for i := 63; i > 0; i-- {
		if i <= size/2 {
			size = size / 2
		}
		isRemoved(t, of, i, laid(size, upTo(i)...))
		of, _ = tree.Remove(of, i)
	}
	isNotRemoved(t, of, 0, api.ErrState)
}

// P9.3: 1024 leaves, of which one goes from the end, and one from the middle.
func TestRemoveOfGreatest(t *testing.T) {
	of := put(full(1024), map[int]api.Node{1023: over(1, 1023), 2045: over(2), 1021: over(3), 511: over(4, 7)})
	isRemoved(t, of, 1023, put(of, map[int]api.Node{2046: {}, 2045: {}, 1023: {}}))
	isRemoved(t, of, 511, put(of, map[int]api.Node{1022: {}, 1021: {}, 511: {}, 1023: {}}))
	isRemoved(t, of, 512, put(of, map[int]api.Node{1024: {}, 1023: {}}))
}

// P9.3: leaves that a tree hasn't, and such that are Blank; that ahead of the last one, which can't go.
func TestRemoveRefusesNone(t *testing.T) {
	for _, n := range sizes() {
		for _, i := range wrongLeaves(n) {
			if i >= 0 && i < n {
				continue
			}
			isNotRemoved(t, full(n), i, api.ErrNone)
			isNotRemoved(t, laid(n, 0), i, api.ErrNone)
		}
	}
	isNotRemoved(t, mixed(), 5, api.ErrNone)
	isNotRemoved(t, mixed(), 8, api.ErrNone)
	isNotRemoved(t, laid(8, 5), 4, api.ErrNone)
	isNotRemoved(t, laid(8, 5), 0, api.ErrNone)
	isNotRemoved(t, laid(2, 0), 1, api.ErrNone)
}

// P9.3: the last leaf can't go, wherever it is, and whatever stands over it.
func TestRemoveRefusesLast(t *testing.T) {
	for _, n := range sizes() {
		for _, i := range []int{0, n / 2, n - 1} {
			isNotRemoved(t, laid(n, i), i, api.ErrState)
		}
	}
	isNotRemoved(t, put(laid(8, 5), map[int]api.Node{7: over(1, 5), 9: over(2), 1: over(3)}), 5, api.ErrState)
}

// isUpdated asks that a leaf changes, and that the tree is that one then.
func isUpdated(t *testing.T, of []api.Node, i int, pub []byte, want []api.Node) {
	t.Helper()
	got, e := tree.Update(of, i, pub)
	isTree(t, got, e, want, "Update", i)
}

// isNotUpdated asks that a leaf doesn't change, and that the tree is what it was.
func isNotUpdated(t *testing.T, of []api.Node, i int, pub []byte, want api.Errno) {
	t.Helper()
	got, e := tree.Update(of, i, pub)
	isKept(t, got, e, want, of, "Update", i)
}

// P9.4: the leaf has its name, another half, and no Hash; its path is Blank, and all else what it was.
func TestUpdate(t *testing.T) {
	for i, path := range [][]int{{1, 3, 7}, {1, 3, 7}, {5, 3, 7}, {5, 3, 7}, {9, 11, 7}, nil, {13, 11, 7}, {13, 11, 7}} {
		if path == nil {
			continue
		}
		want := mixed()
		want[2*i] = api.Node{Kind: api.Leaf, Name: 100 + i, Pub: half(5)}
		for _, x := range path {
			want[x] = api.Node{}
		}
		isUpdated(t, mixed(), i, half(5), want)
	}
}

// P9.4: with the half that it has its Hash goes, and its path is Blank, too.
func TestUpdateToTheSame(t *testing.T) {
	of := put(full(4), map[int]api.Node{6: hashed(leafOf(103)), 5: over(5), 3: hashed(over(3, 3)), 1: over(1)})
	isUpdated(t, of, 3, half(103), put(full(4), map[int]api.Node{1: over(1)}))
}

// P9.4: a tree of one leaf; the least and the greatest name; a tree whose right half is Blank doesn't shrink.
func TestUpdateOfEdges(t *testing.T) {
	for _, name := range []int{0, 65535} {
		isUpdated(t, []api.Node{hashed(leafOf(name))}, 0, half(5), []api.Node{{Kind: api.Leaf, Name: name, Pub: half(5)}})
	}
	of := laid(8, 0, 1)
	isUpdated(t, of, 1, half(5), put(of, map[int]api.Node{2: {Kind: api.Leaf, Name: 101, Pub: half(5)}}))
	of = put(full(1024), map[int]api.Node{1023: over(1), 2045: over(2), 1: over(3)})
	isUpdated(t, of, 1023, half(5), put(of, map[int]api.Node{1023: {}, 2045: {}, 2046: {Kind: api.Leaf, Name: 100 + 1023, Pub: half(5)}}))
}

// P9.4: halves of other lengths, also of a leaf that there isn't.
func TestUpdateRefusesHalves(t *testing.T) {
	for _, n := range wrongLengths() {
		for _, i := range []int{0, 4, 5, 7, 8, -1, least, greatest} {
			isNotUpdated(t, mixed(), i, row(n, 5), api.ErrArg)
		}
		isNotUpdated(t, full(1), 0, row(n, 5), api.ErrArg)
	}
	isNotUpdated(t, mixed(), 4, nil, api.ErrArg)
}

// P9.4: leaves that a tree hasn't, and such that are Blank.
func TestUpdateRefusesNone(t *testing.T) {
	for _, n := range sizes() {
		for _, i := range wrongLeaves(n) {
			if i < 0 || i >= n {
				isNotUpdated(t, full(n), i, half(5), api.ErrNone)
			}
		}
	}
	isNotUpdated(t, mixed(), 5, half(5), api.ErrNone)
	isNotUpdated(t, mixed(), 8, half(5), api.ErrNone)
	isNotUpdated(t, laid(2, 0), 1, half(5), api.ErrNone)
}
