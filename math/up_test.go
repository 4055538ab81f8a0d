package math_test

import (
	"slices"
	"testing"

	"pyx/api"
	"pyx/math"
)

// isList asks that a call answered these numbers, without an error.
func isList(t *testing.T, got []int, e api.Errno, want []int, call string, of ...int) {
	t.Helper()
	if e != api.OK || !slices.Equal(got, want) {
		t.Errorf("%s of %d: %v, %d; want %v, 0", call, of, got, e, want)
	}
}

// isNone asks that a call answered that error, and no number beside it.
func isNone(t *testing.T, got []int, e, want api.Errno, call string, of ...int) {
	t.Helper()
	if e != want || len(got) != 0 {
		t.Errorf("%s of %d: %v, %d; want none, %d", call, of, got, e, want)
	}
}

// areZero asks that all calls that go up from a node answered that error, and nothing beside it.
func areZero(t *testing.T, x, n int, wantOne, wantAll api.Errno) {
	t.Helper()
	got, e := math.Parent(x, n)
	isZero(t, got, e, wantOne, "Parent", x, n)
	got, e = math.Sibling(x, n)
	isZero(t, got, e, wantOne, "Sibling", x, n)
	path, e := math.Path(x, n)
	isNone(t, path, e, wantAll, "Path", x, n)
	copath, e := math.Copath(x, n)
	isNone(t, copath, e, wantAll, "Copath", x, n)
}

// beside is a node's sibling in a tree that is laid.
func beside(tree []place, x int) int {
	over := tree[tree[x].parent]
	if over.left == x {
		return over.right
	}
	return over.left
}

// P8.2: the parent and the sibling of each node of each tree but its root.
func TestParentAndSibling(t *testing.T) {
	for _, n := range sizes() {
		tree := laid(n)
		for x, node := range tree {
			if x == n-1 {
				continue
			}
			got, e := math.Parent(x, n)
			isNumber(t, got, e, node.parent, "Parent", x, n)
			got, e = math.Sibling(x, n)
			isNumber(t, got, e, beside(tree, x), "Sibling", x, n)
		}
	}
}

// P8.2: parents and siblings of 8 leaves, as they are drawn; of 16 leaves the root of 8 has such too.
func TestParentAndSiblingToldElsewhere(t *testing.T) {
	for _, x := range [][4]int{
		{0, 8, 1, 2}, {1, 8, 3, 5}, {2, 8, 1, 0}, {3, 8, 7, 11}, {4, 8, 5, 6}, {5, 8, 3, 1}, {6, 8, 5, 4},
		{8, 8, 9, 10}, {9, 8, 11, 13}, {10, 8, 9, 8}, {11, 8, 7, 3}, {12, 8, 13, 14}, {13, 8, 11, 9}, {14, 8, 13, 12},
		{7, 16, 15, 23}, {23, 16, 15, 7}, {0, 2, 1, 2}, {2, 2, 1, 0},
		{511, 1024, 1023, 1535}, {1535, 1024, 1023, 511}, {2046, 1024, 2045, 2044}, {2045, 1024, 2043, 2041},
	} {
		got, e := math.Parent(x[0], x[1])
		isNumber(t, got, e, x[2], "Parent", x[0], x[1])
		got, e = math.Sibling(x[0], x[1])
		isNumber(t, got, e, x[3], "Sibling", x[0], x[1])
	}
}

// P8.2, P8.3: the root has no parent and no sibling, but a path and a copath, without nodes; of one leaf it is the leaf.
func TestRoot(t *testing.T) {
	for _, n := range sizes() {
		areZero(t, n-1, n, api.ErrNone, api.OK)
	}
}

// P8.2, P8.3: nodes that a tree hasn't: of -1, one beyond its last, beyond 2046, and other ones.
func TestUpRefusesNodes(t *testing.T) {
	for _, n := range sizes() {
		for _, x := range append(wrongNodes(2*n-2), -1, 2*n-1, 2*n, 2047) {
			areZero(t, x, n, api.ErrArg, api.ErrArg)
		}
		for x := 2*n - 1; x < 2100; x++ {
			areZero(t, x, n, api.ErrArg, api.ErrArg)
		}
	}
}

// P8.2, P8.3: counts of leaves that no tree has, also where the node would be its root.
func TestUpRefusesSizes(t *testing.T) {
	for _, n := range append(wrongSizes(), 0, -1, 3, 1023, 1025, 2048) {
		for _, x := range []int{0, 1, 2, 4, 1023, 2046, n - 1, n, -n, 2*n - 2} {
			areZero(t, x, n, api.ErrArg, api.ErrArg)
		}
	}
}

// P8.3: the path and the copath of each node of each tree, from it up.
func TestPathAndCopath(t *testing.T) {
	for _, n := range sizes() {
		tree := laid(n)
		for x := range tree {
			var path, copath []int
			for under := x; tree[under].parent != none; under = tree[under].parent {
				path = append(path, tree[under].parent)
				copath = append(copath, beside(tree, under))
			}
			got, e := math.Path(x, n)
			isList(t, got, e, path, "Path", x, n)
			got, e = math.Copath(x, n)
			isList(t, got, e, copath, "Copath", x, n)
		}
	}
}

// P8.3: paths and copaths of the document's tree of 8 leaves, of one leaf, and of 1024.
func TestPathAndCopathToldElsewhere(t *testing.T) {
	for _, x := range []struct {
		x, n         int
		path, copath []int
	}{
		{4, 8, []int{5, 3, 7}, []int{6, 1, 11}},
		{0, 8, []int{1, 3, 7}, []int{2, 5, 11}},
		{14, 8, []int{13, 11, 7}, []int{12, 9, 3}},
		{9, 8, []int{11, 7}, []int{13, 3}},
		{3, 8, []int{7}, []int{11}},
		{11, 8, []int{7}, []int{3}},
		{7, 8, nil, nil},
		{0, 1, nil, nil},
		{0, 2, []int{1}, []int{2}},
		{7, 16, []int{15}, []int{23}},
		{0, 1024, []int{1, 3, 7, 15, 31, 63, 127, 255, 511, 1023}, []int{2, 5, 11, 23, 47, 95, 191, 383, 767, 1535}},
		{2046, 1024, []int{2045, 2043, 2039, 2031, 2015, 1983, 1919, 1791, 1535, 1023}, []int{2044, 2041, 2035, 2023, 1999, 1951, 1855, 1663, 1279, 511}},
		{1023, 1024, nil, nil},
	} {
		got, e := math.Path(x.x, x.n)
		isList(t, got, e, x.path, "Path", x.x, x.n)
		got, e = math.Copath(x.x, x.n)
		isList(t, got, e, x.copath, "Copath", x.x, x.n)
	}
}
