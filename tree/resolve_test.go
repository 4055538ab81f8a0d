package tree_test

import (
	"slices"
	"testing"

	"pyx/api"
	"pyx/tree"
)

// isResolved asks for the nodes that cover what is below one.
func isResolved(t *testing.T, of []api.Node, x int, want ...int) {
	t.Helper()
	if got := tree.Resolve(of, x); !slices.Equal(got, want) {
		t.Errorf("Resolve(%d): %v; want %v", x, got, want)
	}
}

// P9.5: of each node of a tree of all kinds, as the document's words have it.
func TestResolve(t *testing.T) {
	for x, want := range [][]int{
		{0}, {1, 2}, {2}, {3}, {4}, {4, 6}, {6},
		{7, 0, 6, 8, 14},
		{8}, {9}, nil, {9, 13, 12, 14}, {12}, {13, 12, 14}, {14},
	} {
		isResolved(t, mixed(), x, want...)
	}
}

// P9.5: a Blank node tells its left child's nodes, and its right one's behind them, with their Un.
func TestResolveOfBlank(t *testing.T) {
	of := put(mixed(), map[int]api.Node{7: {}})
	isResolved(t, of, 7, 3, 9, 13, 12, 14)
	of = put(of, map[int]api.Node{3: {}})
	isResolved(t, of, 7, 1, 2, 4, 6, 9, 13, 12, 14)
	isResolved(t, of, 3, 1, 2, 4, 6)
	isResolved(t, laid(8, 1, 5, 6), 7, 2, 10, 12)
	isResolved(t, laid(8, 1, 5, 6), 3, 2)
	isResolved(t, laid(8, 5), 3)
	isResolved(t, laid(8, 5), 11, 10)
	isResolved(t, laid(8, 5), 7, 10)
}

// P9.5: of a leaf, with a Hash and without, and of a Blank one; of a tree of one leaf.
func TestResolveOfLeaf(t *testing.T) {
	for i := range 8 {
		isResolved(t, full(8), 2*i, 2*i)
		isResolved(t, put(full(8), map[int]api.Node{2 * i: hashed(leafOf(5))}), 2*i, 2*i)
		isResolved(t, put(full(8), map[int]api.Node{2 * i: {}}), 2*i)
	}
	isResolved(t, full(1), 0, 0)
}

// P9.5: of a node whose Un are all leaves below it.
func TestResolveOfUn(t *testing.T) {
	isResolved(t, put(full(8), map[int]api.Node{7: over(1, upTo(8)...)}), 7, 7, 0, 2, 4, 6, 8, 10, 12, 14)
	isResolved(t, put(full(8), map[int]api.Node{7: over(1, 7)}), 7, 7, 14)
	isResolved(t, put(full(8), map[int]api.Node{7: over(1)}), 7, 7)
	isResolved(t, put(full(8), map[int]api.Node{7: over(1), 3: over(2, 1)}), 3, 3, 2)
}

// P9.5: of a place that there isn't.
func TestResolveOfNone(t *testing.T) {
	for _, n := range sizes() {
		for _, x := range []int{-1, -2, -3, 2*n - 1, 2 * n, 2*n + 1, 4*n - 1, 2047, 4095, 1 << 32, 1<<32 + 1, least, least + 1, greatest, greatest - 1} {
			if x < 0 || x > 2*n-2 {
				isResolved(t, full(n), x)
				isResolved(t, put(full(n), map[int]api.Node{n - 1: {}}), x)
			}
		}
	}
}

// P9.5: of 1024 leaves under Blank nodes, all of them; under a Parent that one, and those that don't know it.
func TestResolveOfGreatest(t *testing.T) {
	var leaves []int
	for i := range 1024 {
		leaves = append(leaves, 2*i)
	}
	isResolved(t, full(1024), 1023, leaves...)
	isResolved(t, full(1024), 1535, leaves[512:]...)
	isResolved(t, put(full(1024), map[int]api.Node{1023: over(1, upTo(1024)...)}), 1023, append([]int{1023}, leaves...)...)
	isResolved(t, put(full(1024), map[int]api.Node{511: over(1, 3)}), 1023, append([]int{511, 6}, leaves[512:]...)...)
}
