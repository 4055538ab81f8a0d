package path_test

import (
	"slices"
	"testing"

	"pyx/api"
	"pyx/path"
)

// isNodes asks for a leaf's steps.
func isNodes(t *testing.T, of []api.Node, i int, want ...int) {
	t.Helper()
	got, e := path.Nodes(of, i)
	if e != api.OK || !slices.Equal(got, want) {
		t.Errorf("Nodes(%d): error %d, and %v; want %v", i, e, got, want)
	}
}

// isNoWay asks that a leaf has no steps, as it isn't there.
func isNoWay(t *testing.T, of []api.Node, i int) {
	t.Helper()
	got, e := path.Nodes(of, i)
	if e != api.ErrNone || len(got) > 0 {
		t.Errorf("Nodes(%d): error %d, and %v", i, e, got)
	}
}

// P11.1: a tree of one leaf, which has no path.
func TestNodesOfOne(t *testing.T) {
	isNodes(t, full(1), 0)
	isNodes(t, []api.Node{hashed(leafAt(0))}, 0)
}

// P11.1: a leaf beside which nobody is, anywhere, whatever stands on its path.
func TestNodesOfLonely(t *testing.T) {
	for _, n := range sizes() {
		for _, i := range []int{0, n / 2, n - 1} {
			isNodes(t, some(n, i), i)
			of := some(n, i)
			for _, s := range spans(of, i) {
				of[s.node()] = over(s.node())
			}
			isNodes(t, of, i)
		}
	}
}

// P11.1: a leaf beside which somebody is in part: each side where nobody is has no step.
func TestNodesInPart(t *testing.T) {
	isNodes(t, some(8, 0, 1), 0, 1)
	isNodes(t, some(8, 0, 2), 0, 3)
	isNodes(t, some(8, 0, 3), 0, 3)
	isNodes(t, some(8, 0, 4), 0, 7)
	isNodes(t, some(8, 0, 7), 0, 7)
	isNodes(t, some(8, 0, 1, 7), 0, 1, 7)
	isNodes(t, some(8, 0, 1, 2), 0, 1, 3)
	isNodes(t, some(8, 0, 2, 5), 0, 3, 7)
	isNodes(t, some(8, 0, 2, 5), 2, 3, 7)
	isNodes(t, some(8, 0, 2, 5), 5, 7)
	isNodes(t, mixed(), 4, 11, 7)
	isNodes(t, mixed(), 6, 13, 11, 7)
}

// P11.1: a leaf beside which somebody is everywhere: all of its path, from the lowest node on, Blank or not.
func TestNodesOfAll(t *testing.T) {
	for _, of := range [][]api.Node{full(8), whole(8)} {
		for i, want := range [][]int{{1, 3, 7}, {1, 3, 7}, {5, 3, 7}, {5, 3, 7}, {9, 11, 7}, {9, 11, 7}, {13, 11, 7}, {13, 11, 7}} {
			isNodes(t, of, i, want...)
		}
	}
	isNodes(t, full(2), 0, 1)
	isNodes(t, full(2), 1, 1)
	isNodes(t, full(1024), 0, 1, 3, 7, 15, 31, 63, 127, 255, 511, 1023)
	isNodes(t, whole(1024), 1023, 2045, 2043, 2039, 2031, 2015, 1983, 1919, 1791, 1535, 1023)
}

// P11.1: a Parent beside the path counts, though all leaves below it are Blank; a Blank node doesn't, though leaves below it are there, but by those.
func TestNodesBesideParents(t *testing.T) {
	isNodes(t, put(some(4, 0), map[int]api.Node{5: over(5)}), 0, 3)
	isNodes(t, put(some(4, 0), map[int]api.Node{3: over(3), 1: over(1, 0)}), 0)
	isNodes(t, put(whole(8), map[int]api.Node{8: {}, 10: {}, 11: {}}), 6, 13, 11, 7)
	isNodes(t, put(whole(8), map[int]api.Node{8: {}, 10: {}, 9: {}}), 6, 13, 7)
}

// P11.1: each leaf of trees of all kinds, as the model has it.
func TestNodesAsModel(t *testing.T) {
	for _, of := range woods() {
		for i := range all(of)[1] {
			if of[2*i].Kind == api.Blank {
				isNoWay(t, of, i)
				continue
			}
			isNodes(t, of, i, nodes(steps(of, i))...)
		}
	}
}

// P11.1: leaves that there aren't, -1 and the one beyond the last among them, and Blank ones.
func TestNodesRefuses(t *testing.T) {
	for _, n := range sizes() {
		for _, of := range [][]api.Node{full(n), whole(n), some(n, n-1)} {
			for _, i := range noLeaves(n) {
				isNoWay(t, of, i)
			}
		}
	}
	isNoWay(t, mixed(), 5)
	isNoWay(t, put(whole(4), map[int]api.Node{2: {}}), 1)
	isNoWay(t, some(8, 5), 4)
}
