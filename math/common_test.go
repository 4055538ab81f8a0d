package math_test

import (
	"testing"

	"pyx/api"
	"pyx/math"
)

// lowestOver is, in a tree that is laid, the lowest node over two leaves, found from the root down.
func lowestOver(tree []place, root, a, b int) int {
	over := func(x int) bool {
		return tree[x].firstLeaf <= min(a, b) && max(a, b) <= tree[x].lastLeaf
	}
	x := root
	for tree[x].level > 0 && (over(tree[x].left) || over(tree[x].right)) {
		if over(tree[x].left) {
			x = tree[x].left
		} else {
			x = tree[x].right
		}
	}
	return x
}

// isCommon asks for the lowest node over two leaves, in either order.
func isCommon(t *testing.T, a, b, n, want int) {
	t.Helper()
	got, e := math.Common(a, b, n)
	isNumber(t, got, e, want, "Common", a, b, n)
	got, e = math.Common(b, a, n)
	isNumber(t, got, e, want, "Common", b, a, n)
}

// isNoCommon asks that there is no node over two leaves, in either order.
func isNoCommon(t *testing.T, a, b, n int) {
	t.Helper()
	got, e := math.Common(a, b, n)
	isZero(t, got, e, api.ErrArg, "Common", a, b, n)
	got, e = math.Common(b, a, n)
	isZero(t, got, e, api.ErrArg, "Common", b, a, n)
}

// P8.4: the lowest node over two leaves, of all pairs of small trees.
func TestCommon(t *testing.T) {
	for _, n := range sizes()[:8] {
		tree := laid(n)
		for a := range n {
			for b := range n {
				isCommon(t, a, b, n, lowestOver(tree, n-1, a, b))
			}
		}
	}
}

// P8.4: the lowest node over two leaves, of pairs of great trees.
func TestCommonOfGreatTrees(t *testing.T) {
	for _, n := range sizes()[8:] {
		tree := laid(n)
		for a := range n {
			for _, b := range []int{0, a, a ^ 1, a ^ 2, a ^ n/2, n - 1 - a, a * 7 % n, n/2 - 1, n / 2, n - 1} {
				isCommon(t, a, b, n, lowestOver(tree, n-1, a, b))
			}
		}
	}
}

// P8.4: pairs of the document's tree of 8 leaves; two leaves that are the same, and two of which each stands in another half.
func TestCommonToldElsewhere(t *testing.T) {
	for _, x := range [][4]int{
		{0, 3, 8, 3}, {0, 1, 8, 1}, {1, 2, 8, 3}, {2, 3, 8, 5}, {3, 4, 8, 7}, {0, 7, 8, 7}, {6, 7, 8, 13}, {5, 6, 8, 11},
		{2, 2, 8, 4}, {0, 0, 8, 0}, {7, 7, 8, 14}, {0, 0, 1, 0}, {0, 1, 2, 1}, {1, 1, 2, 2}, {3, 4, 16, 7}, {7, 8, 16, 15},
		{511, 512, 1024, 1023}, {0, 1023, 1024, 1023}, {1022, 1023, 1024, 2045}, {1023, 1023, 1024, 2046}, {0, 511, 1024, 511},
	} {
		isCommon(t, x[0], x[1], x[2], x[3])
	}
}

// P8.4: leaves that a tree hasn't, in each of the two places, and in both.
func TestCommonRefusesLeaves(t *testing.T) {
	for _, n := range sizes() {
		for _, wrong := range append(wrongNodes(n-1), -1, n, n+1, 2*n-2+n, 1024, 2046) {
			for _, right := range []int{0, n / 2, n - 1} {
				isNoCommon(t, wrong, right, n)
			}
			isNoCommon(t, wrong, wrong, n)
			isNoCommon(t, wrong, -1, n)
			isNoCommon(t, wrong, n, n)
		}
	}
}

// P8.4: counts of leaves that no tree has, also of two leaves that are the same.
func TestCommonRefusesSizes(t *testing.T) {
	for _, n := range append(wrongSizes(), 0, -1, 3, 1023, 1025, 2048) {
		for _, x := range [][2]int{{0, 0}, {0, 1}, {1, 2}, {n - 1, n - 1}, {0, n - 1}, {0, n}, {-1, 0}, {n, n}} {
			isNoCommon(t, x[0], x[1], n)
		}
	}
}

// P8.4: the leaves below each node; of a leaf itself, twice.
func TestLeaves(t *testing.T) {
	for x, node := range laid(1024) {
		if first, end := math.Leaves(x); first != node.firstLeaf || end != node.lastLeaf {
			t.Errorf("Leaves(%d): %d, %d; want %d, %d", x, first, end, node.firstLeaf, node.lastLeaf)
		}
	}
	for i := range 1024 {
		if first, end := math.Leaves(2 * i); first != i || end != i {
			t.Errorf("of leaf %d: %d, %d", i, first, end)
		}
	}
}

// P8.4: leaves of 8, and of 1024.
func TestLeavesToldElsewhere(t *testing.T) {
	for x, want := range map[int][2]int{0: {0, 0}, 1: {0, 1}, 3: {0, 3}, 5: {2, 3}, 7: {0, 7}, 9: {4, 5}, 11: {4, 7}, 14: {7, 7}, 1023: {0, 1023}, 1535: {512, 1023}, 2045: {1022, 1023}, 2046: {1023, 1023}} {
		if first, end := math.Leaves(x); first != want[0] || end != want[1] {
			t.Errorf("Leaves(%d): %d, %d; want %v", x, first, end, want)
		}
	}
}

// P8.4: the leaves of another number than a node: from 0 to -1, so that there is none.
func TestLeavesOfNone(t *testing.T) {
	for _, x := range append(wrongNodes(last), -1, 2047, 2048, 4095) {
		if first, end := math.Leaves(x); first != 0 || end != -1 {
			t.Errorf("Leaves(%d): %d, %d; want 0, -1", x, first, end)
		}
	}
}
