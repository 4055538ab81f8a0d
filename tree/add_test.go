package tree_test

import (
	"testing"

	"pyx/api"
	"pyx/tree"
)

// isAdded asks that a leaf comes to a place, and that the tree is that one then.
func isAdded(t *testing.T, to []api.Node, name, wantAt int, want []api.Node) {
	t.Helper()
	got, at, e := tree.Add(to, name, half(name))
	isTree(t, got, e, want, "Add", name)
	if at != wantAt {
		t.Errorf("Add(%d): leaf %d; want %d", name, at, wantAt)
	}
}

// isNotAdded asks that a leaf doesn't come, and that the tree is what it was.
func isNotAdded(t *testing.T, to []api.Node, name int, pub []byte, want api.Errno) {
	t.Helper()
	got, at, e := tree.Add(to, name, pub)
	isKept(t, got, e, want, to, "Add", name)
	if at != 0 {
		t.Errorf("Add(%d): leaf %d beside an error", name, at)
	}
}

// P9.2: a full tree has twice as many leaves then, the new nodes Blank, and the leaf is the first one of the right half.
func TestAddDoubles(t *testing.T) {
	for _, n := range sizes()[:10] {
		want := append(full(n), make([]api.Node, 2*n)...)
		want[2*n] = leafOf(5)
		isAdded(t, full(n), 5, n, want)
	}
}

// P9.2: what stands in a full tree stays when it doubles: no node of it is on the new leaf's path, its root neither.
func TestAddDoublesBesideParents(t *testing.T) {
	of := put(full(4), map[int]api.Node{1: over(1, 1), 2: hashed(leafOf(101)), 3: hashed(over(3)), 5: over(5, 2, 3)})
	want := append(clonedAll(of), make([]api.Node, 8)...)
	want[8] = leafOf(5)
	isAdded(t, of, 5, 4, want)
}

// P9.2, the document's example: three leaves that are added to one make four, with Blank nodes over them.
func TestAddThreeToOne(t *testing.T) {
	of, e := tree.New(100, half(100))
	for i := range 3 {
		if e != api.OK {
			t.Fatal(e)
		}
		var at int
		of, at, e = tree.Add(of, 101+i, half(101+i))
		if at != i+1 {
			t.Errorf("leaf %d; want %d", at, i+1)
		}
	}
	isTree(t, of, e, full(4), "three to one")
	if of[3].Kind != api.Blank {
		t.Errorf("the root is %v", of[3])
	}
}

// P9.2: the first gap is filled, wherever it is; the tree doesn't grow then.
func TestAddFillsFirstGap(t *testing.T) {
	for gap := range 8 {
		for other := gap + 1; other <= 8; other++ {
			of := full(8)
			of[2*gap] = api.Node{}
			if other < 8 {
				of[2*other] = api.Node{}
			}
			isAdded(t, of, 5, gap, put(of, map[int]api.Node{2 * gap: leafOf(5)}))
		}
	}
	isAdded(t, laid(8, 0), 5, 1, put(laid(8, 0), map[int]api.Node{2: leafOf(5)}))
	isAdded(t, laid(8, 7), 5, 0, put(laid(8, 7), map[int]api.Node{0: leafOf(5)}))
}

// P9.2: each node of the path that isn't Blank gets the leaf among its Un, where it belongs; Blank ones stay so, and others as they were.
func TestAddTellsParents(t *testing.T) {
	of := mixed()
	want := put(of, map[int]api.Node{
		7:  over(7, 0, 3, 4, 5, 7),
		9:  over(9, 5),
		10: leafOf(5),
	})
	isAdded(t, of, 5, 5, want)
}

// P9.2: among Un that are all less, all greater, and none; beside a Hash that stays.
func TestAddTellsParentsRising(t *testing.T) {
	for i, x := range []struct {
		gap       int
		was, then []int
	}{
		{0, []int{1, 2, 3}, []int{0, 1, 2, 3}}, {0, nil, []int{0}}, {3, []int{0, 1, 2}, []int{0, 1, 2, 3}}, {3, []int{}, []int{3}},
		{1, []int{0, 3}, []int{0, 1, 3}}, {2, []int{0, 1}, []int{0, 1, 2}}, {2, []int{3}, []int{2, 3}}, {1, []int{0, 2, 3}, []int{0, 1, 2, 3}},
	} {
		of := put(full(4), map[int]api.Node{2 * x.gap: {}, 3: hashed(over(3, x.was...))})
		want := put(of, map[int]api.Node{2 * x.gap: leafOf(5), 3: hashed(over(3, x.then...))})
		isTree(t, of, api.OK, of, i)
		isAdded(t, of, 5, x.gap, want)
	}
}

// P9.2: one leaf behind another: each Parent over them gets all of them.
func TestAddTellsParentsAgain(t *testing.T) {
	of := put(laid(8, 0, 3), map[int]api.Node{1: over(1), 3: over(3, 3), 7: over(7)})
	for i, want := range []int{1, 2, 4, 5, 6, 7} {
		got, at, e := tree.Add(of, 10+i, half(10+i))
		if e != api.OK || at != want {
			t.Fatal(at, e)
		}
		of = got
	}
	want := put(full(8), map[int]api.Node{1: over(1, 1), 3: over(3, 1, 2, 3), 7: over(7, 1, 2, 4, 5, 6, 7)})
	for i, at := range []int{1, 2, 4, 5, 6, 7} {
		want[2*at] = leafOf(10 + i)
	}
	isTree(t, of, api.OK, want, "all added")
}

// P9.2: the least and the greatest name.
func TestAddNames(t *testing.T) {
	for _, name := range []int{0, 65535} {
		isAdded(t, laid(2, 0), name, 1, put(laid(2, 0), map[int]api.Node{2: leafOf(name)}))
		isAdded(t, mixed(), name, 5, put(mixed(), map[int]api.Node{7: over(7, 0, 3, 4, 5, 7), 9: over(9, 5), 10: leafOf(name)}))
	}
}

// P9.2: names and halves that may not be; those ahead of a name that is there, and of a tree that is full.
func TestAddRefusesArguments(t *testing.T) {
	whole := full(1024)
	for _, of := range [][]api.Node{full(1), full(2), mixed(), whole} {
		for _, name := range wrongNames() {
			isNotAdded(t, of, name, half(1), api.ErrArg)
			isNotAdded(t, of, name, row(31, 1), api.ErrArg)
		}
		for _, n := range wrongLengths() {
			isNotAdded(t, of, 5, row(n, 1), api.ErrArg)
			isNotAdded(t, of, 100, row(n, 1), api.ErrArg)
		}
	}
}

// P9.2: a name that is there, with its own half, or another one.
func TestAddRefusesNameThatIsThere(t *testing.T) {
	for _, i := range []int{0, 1, 2, 3, 4, 6, 7} {
		isNotAdded(t, mixed(), 100+i, half(100+i), api.ErrHad)
		isNotAdded(t, mixed(), 100+i, half(1), api.ErrHad)
	}
	isNotAdded(t, full(1), 100, half(1), api.ErrHad)
	zero := full(4)
	zero[6].Name = 0
	isNotAdded(t, zero, 0, half(1), api.ErrHad)
}

// P9.2: 1024 leaves, none of them Blank; a name that is there is told first.
func TestAddRefusesMoreThanGreatest(t *testing.T) {
	isNotAdded(t, full(1024), 5, half(5), api.ErrBig)
	isNotAdded(t, full(1024), 0, half(5), api.ErrBig)
	isNotAdded(t, full(1024), 100+1023, half(5), api.ErrHad)
	isNotAdded(t, full(1024), 100, half(5), api.ErrHad)
}

// P9.2: 1024 leaves with a gap, at the end too, of which all nodes over it get to know.
func TestAddToGreatest(t *testing.T) {
	for _, gap := range []int{0, 1, 511, 512, 700, 1023} {
		of := put(full(1024), map[int]api.Node{2 * gap: {}, 1023: over(1, 2, 1022)})
		want := put(of, map[int]api.Node{2 * gap: leafOf(5)})
		switch {
		case gap < 2:
			want[1023].Un = []int{gap, 2, 1022}
		case gap < 1022:
			want[1023].Un = []int{2, gap, 1022}
		default:
			want[1023].Un = []int{2, 1022, gap}
		}
		isAdded(t, of, 5, gap, want)
	}
}

// P9.2: one leaf behind another, up to 1024; then no more.
func TestAddUpToGreatest(t *testing.T) {
	of, e := tree.New(100, half(100))
	for i := 1; i < 1024; i++ {
		var at int
		of, at, e = tree.Add(of, 100+i, half(100+i))
		if e != api.OK || at != i || !tree.Right(of) {
			t.Fatalf("leaf %d: %d, %d", i, at, e)
		}
	}
	isTree(t, of, e, full(1024), "up to 1024")
	isNotAdded(t, of, 5, half(5), api.ErrBig)
}
