package math_test

import (
	"slices"
	"sync"
	"testing"

	"pyx/api"
	"pyx/math"
)

// pathOf is what Path answers.
func pathOf(t *testing.T, x, n int) []int {
	t.Helper()
	path, e := math.Path(x, n)
	if e != api.OK {
		t.Fatal(x, n, e)
	}
	return path
}

// copathOf is what Copath answers.
func copathOf(t *testing.T, x, n int) []int {
	t.Helper()
	copath, e := math.Copath(x, n)
	if e != api.OK {
		t.Fatal(x, n, e)
	}
	return copath
}

// P8.5: a child's parent is the node, and its sibling the other child.
func TestChildHasParent(t *testing.T) {
	for _, n := range sizes() {
		for x := range 2*n - 1 {
			left, e := math.Left(x)
			if e != api.OK {
				continue
			}
			right, _ := math.Right(x)
			for _, pair := range [][2]int{{left, right}, {right, left}} {
				got, e := math.Parent(pair[0], n)
				isNumber(t, got, e, x, "Parent", pair[0], n)
				got, e = math.Sibling(pair[0], n)
				isNumber(t, got, e, pair[1], "Sibling", pair[0], n)
			}
		}
	}
}

// P8.5: the path ends with the root; each node of it has one child in the path, or x, and the other one in the copath.
func TestPathBesideCopath(t *testing.T) {
	for _, n := range sizes() {
		for x := range 2*n - 1 {
			path, copath := pathOf(t, x, n), copathOf(t, x, n)
			on := append([]int{x}, path...)
			if on[len(path)] != n-1 || len(path) != len(copath) {
				t.Errorf("of %d leaves, node %d: path %v, copath %v", n, x, path, copath)
				continue
			}
			for i, over := range path {
				left, _ := math.Left(over)
				right, _ := math.Right(over)
				one := slices.Contains(on, left) && copath[i] == right && !slices.Contains(on, right)
				other := slices.Contains(on, right) && copath[i] == left && !slices.Contains(on, left)
				if one == other {
					t.Errorf("of %d leaves, node %d, over it %d: path %v, copath %v", n, x, over, path, copath)
				}
			}
		}
	}
}

// P8.5: below a node of level k are 2^k leaves: those of its children, one behind the other.
func TestLeavesOfLevel(t *testing.T) {
	for x := range last + 1 {
		first, end := math.Leaves(x)
		if end-first+1 != 1<<math.Level(x) {
			t.Errorf("below node %d of level %d: from %d to %d", x, math.Level(x), first, end)
		}
		left, e := math.Left(x)
		if e != api.OK {
			continue
		}
		right, _ := math.Right(x)
		leftFirst, leftEnd := math.Leaves(left)
		rightFirst, rightEnd := math.Leaves(right)
		if leftFirst != first || rightFirst != leftEnd+1 || rightEnd != end {
			t.Errorf("below node %d: from %d to %d; its children: %d %d %d %d", x, first, end, leftFirst, leftEnd, rightFirst, rightEnd)
		}
	}
}

// P8.4, P8.5: the lowest node over two leaves is the first of the one's path that stands on the other's.
func TestCommonStandsOnPaths(t *testing.T) {
	const n = 32
	for a := range n {
		for b := range n {
			common, e := math.Common(a, b, n)
			of := append([]int{2 * a}, pathOf(t, 2*a, n)...)
			others := append([]int{2 * b}, pathOf(t, 2*b, n)...)
			at := slices.IndexFunc(of, func(x int) bool { return slices.Contains(others, x) })
			isNumber(t, common, e, of[at], "Common", a, b, n)
		}
	}
}

// R3: who writes into an answer, or behind it, changes no other.
func TestNothingShared(t *testing.T) {
	for name, of := range map[string]func(*testing.T, int, int) []int{"Path": pathOf, "Copath": copathOf} {
		for _, x := range []int{0, 4, 9, 14} {
			first, second := of(t, x, 8), of(t, x, 8)
			want := slices.Clone(second)
			clear(first[:cap(first)])
			if !slices.Equal(second, want) || !slices.Equal(of(t, x, 8), want) {
				t.Errorf("%s of %d: then %v; want %v", name, x, second, want)
			}
		}
	}
}

// R4: what is asked at the same time is answered as what is asked alone.
func TestAtTheSameTime(t *testing.T) {
	var all sync.WaitGroup
	for i := range 16 {
		all.Go(func() {
			for range 100 {
				path, e := math.Path(4, 8)
				isList(t, path, e, []int{5, 3, 7}, "Path", 4, 8)
				copath, e := math.Copath(4, 8)
				isList(t, copath, e, []int{6, 1, 11}, "Copath", 4, 8)
				common, e := math.Common(i, 15-i, 16)
				isNumber(t, common, e, lowestOver(laid(16), 15, i, 15-i), "Common", i, 15-i, 16)
			}
		})
	}
	all.Wait()
}

// R1: any numbers are answered, as the tree that is laid by halves has them.
func FuzzAll(f *testing.F) {
	for _, x := range [][3]int{{0, 0, 1}, {4, 3, 8}, {7, 0, 8}, {2046, 1023, 1024}, {-1, 8, 8}, {15, -1, 3}, {least, greatest, least}, {greatest, least, greatest}} {
		f.Add(x[0], x[1], x[2])
	}
	f.Fuzz(func(t *testing.T, x, b, n int) {
		if !slices.Contains(sizes(), n) {
			areZero(t, x, n, api.ErrArg, api.ErrArg)
			isNoCommon(t, x, b, n)
			return
		}
		tree := laid(n)
		if x < 0 || x >= n || b < 0 || b >= n {
			isNoCommon(t, x, b, n)
		} else {
			isCommon(t, x, b, n, lowestOver(tree, n-1, x, b))
		}
		switch {
		case x < 0 || x > 2*n-2:
			areZero(t, x, n, api.ErrArg, api.ErrArg)
		case x == n-1:
			areZero(t, x, n, api.ErrNone, api.OK)
		default:
			got, e := math.Parent(x, n)
			isNumber(t, got, e, tree[x].parent, "Parent", x, n)
			got, e = math.Sibling(x, n)
			isNumber(t, got, e, beside(tree, x), "Sibling", x, n)
		}
	})
}
