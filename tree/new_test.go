package tree_test

import (
	"testing"

	"pyx/api"
	"pyx/tree"
)

// wrongNames are names that no leaf may have.
func wrongNames() []int {
	return []int{-1, 65536, least, greatest, -65536, 65537, 1 << 32, 1<<32 + 7, least + 7, -7}
}

// wrongLengths are how many bytes a public half may not have.
func wrongLengths() []int { return []int{0, 1, 16, 31, 33, 64, 288} }

// P9.1: a tree of one leaf, of the least and the greatest name too.
func TestNew(t *testing.T) {
	for _, name := range []int{0, 1, 7, 255, 256, 65534, 65535} {
		got, e := tree.New(name, half(name))
		isTree(t, got, e, []api.Node{{Kind: api.Leaf, Name: name, Pub: half(name)}}, "New", name)
		if !tree.Right(got) {
			t.Errorf("New(%d) isn't right", name)
		}
		if i, is := tree.Find(got, name); i != 0 || !is {
			t.Errorf("of New(%d) Find tells %d, %v", name, i, is)
		}
	}
}

// P9.1: names that no leaf may have.
func TestNewRefusesNames(t *testing.T) {
	for _, name := range wrongNames() {
		if got, e := tree.New(name, half(1)); e != api.ErrArg || len(got) != 0 {
			t.Errorf("New(%d): %v, %d", name, got, e)
		}
	}
}

// P9.1: halves of other lengths, none at all among them.
func TestNewRefusesHalves(t *testing.T) {
	for _, n := range wrongLengths() {
		if got, e := tree.New(7, row(n, 1)); e != api.ErrArg || len(got) != 0 {
			t.Errorf("of %d bytes: %v, %d", n, got, e)
		}
		if got, e := tree.New(-1, row(n, 1)); e != api.ErrArg || len(got) != 0 {
			t.Errorf("of %d bytes, and no name: %v, %d", n, got, e)
		}
	}
	if got, e := tree.New(7, nil); e != api.ErrArg || len(got) != 0 {
		t.Errorf("of none: %v, %d", got, e)
	}
}

// isFound asks where a leaf of a name is.
func isFound(t *testing.T, of []api.Node, name, want int) {
	t.Helper()
	if i, is := tree.Find(of, name); i != want || !is {
		t.Errorf("Find(%d): %d, %v; want %d, yes", name, i, is, want)
	}
}

// isLost asks that there is no leaf of a name.
func isLost(t *testing.T, of []api.Node, name int) {
	t.Helper()
	if i, is := tree.Find(of, name); i != 0 || is {
		t.Errorf("Find(%d): %d, %v; want 0, no", name, i, is)
	}
}

// P9.1: the leaf of each name that is there, and none of another one.
func TestFind(t *testing.T) {
	for _, there := range [][]int{{0}, {7}, {0, 1, 2, 3, 4, 5, 6, 7}, {3, 4}, {1, 5, 6}} {
		of := laid(8, there...)
		for i := range 8 {
			if of[2*i].Kind == api.Leaf {
				isFound(t, of, 100+i, i)
			} else {
				isLost(t, of, 100+i)
			}
		}
	}
	of := full(1024)
	for i := range 1024 {
		isFound(t, of, 100+i, i)
	}
	isLost(t, of, 99)
	isLost(t, of, 100+1024)
}

// P9.1: a Blank leaf, and a Parent, have Name 0, but are no leaves of that name.
func TestFindTellsLeavesAlone(t *testing.T) {
	of := mixed()
	isLost(t, of, 0)
	isFound(t, of, 104, 4)
	of[12].Name = 0
	isFound(t, of, 0, 6)
	isLost(t, laid(4, 1), 0)
	isLost(t, put(laid(2, 0, 1), map[int]api.Node{1: over(1)}), 0)
}

// P9.1: numbers that are no names.
func TestFindOfNoName(t *testing.T) {
	for _, name := range append(wrongNames(), 103+65536, 103-65536, 103+1<<32) {
		isLost(t, full(8), name)
		isLost(t, mixed(), name)
		isLost(t, full(1), name)
	}
}
