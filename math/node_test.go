package math_test

import (
	"slices"
	"testing"

	"pyx/api"
	"pyx/math"
)

const (
	least    = -1 << 63   // the least number that there is
	greatest = 1<<63 - 1  // the greatest one
	last     = 2046       // the last node of 1024 leaves
	none     = least + 77 // stands in these tests where there is no node
)

// place is how a node stands in a tree that is laid by halves.
type place struct {
	level               int
	left, right         int
	parent              int
	firstLeaf, lastLeaf int
}

// laid is a tree of n leaves, laid from the root down by halving its leaves; no bit of a node is looked at.
func laid(n int) []place {
	out := make([]place, 2*n-1)
	lay(out, 0, n, none)
	return out
}

// lay lays the node over the leaves from one on, up to another one, and answers it; a node stands between those of its halves.
func lay(out []place, from, to, parent int) int {
	if to-from == 1 {
		out[2*from] = place{left: none, right: none, parent: parent, firstLeaf: from, lastLeaf: from}
		return 2 * from
	}
	half := (from + to) / 2
	x := half*2 - 1
	left, right := lay(out, from, half, x), lay(out, half, to, x)
	out[x] = place{level: out[left].level + 1, left: left, right: right, parent: parent, firstLeaf: from, lastLeaf: to - 1}
	return x
}

// sizes are all counts of leaves that a tree may have.
func sizes() []int { return []int{1, 2, 4, 8, 16, 32, 64, 128, 256, 512, 1024} }

// wrongSizes are counts of leaves that no tree has: all about those of trees, and such whose bits are cut off by narrower numbers.
func wrongSizes() []int {
	var out []int
	for n := -2100; n <= 5000; n++ {
		if !slices.Contains(sizes(), n) {
			out = append(out, n)
		}
	}
	for k := 13; k < 63; k++ {
		out = append(out, 1<<k, 1<<k+1, 1<<k+8, 1<<k-1, -1<<k, -1<<k+1, -1<<k+8)
	}
	return append(out, least, least+1, least+8, greatest, greatest-1, greatest-7)
}

// wrongNodes are numbers that are no nodes of a tree whose last node is told.
func wrongNodes(last int) []int {
	var out []int
	for d := 1; d <= 40; d++ {
		out = append(out, -d, last+d)
	}
	for k := 12; k < 63; k++ {
		out = append(out, 1<<k, 1<<k+1, 1<<k+3, 1<<k-1, 1<<k+last, -1<<k, -1<<k+3, -1<<k+last)
	}
	return append(out, 2047, 2048, 4095, least, least+1, least+3, greatest, greatest-1, greatest-2)
}

// isNumber asks that a call answered this number, without an error.
func isNumber(t *testing.T, got int, e api.Errno, want int, call string, of ...int) {
	t.Helper()
	if e != api.OK || got != want {
		t.Errorf("%s of %d: %d, %d; want %d, 0", call, of, got, e, want)
	}
}

// isZero asks that a call answered that error, and 0 beside it.
func isZero(t *testing.T, got int, e, want api.Errno, call string, of ...int) {
	t.Helper()
	if e != want || got != 0 {
		t.Errorf("%s of %d: %d, %d; want 0, %d", call, of, got, e, want)
	}
}

// P8.1: how many nodes a tree has, of one leaf and of 1024 ones too.
func TestWidth(t *testing.T) {
	for i, want := range []int{1, 3, 7, 15, 31, 63, 127, 255, 511, 1023, 2047} {
		got, e := math.Width(sizes()[i])
		isNumber(t, got, e, want, "Width", sizes()[i])
		if want != len(laid(sizes()[i])) {
			t.Errorf("%d nodes were laid; want %d", len(laid(sizes()[i])), want)
		}
	}
}

// P8.1: counts of leaves that no tree has.
func TestWidthRefuses(t *testing.T) {
	for _, n := range []int{0, -1, -2, -4, -1024, 3, 5, 6, 7, 1023, 1025, 2048, least, greatest} {
		got, e := math.Width(n)
		isZero(t, got, e, api.ErrArg, "Width", n)
	}
	for _, n := range wrongSizes() {
		got, e := math.Width(n)
		isZero(t, got, e, api.ErrArg, "Width", n)
	}
}

// P8.1: levels as the document's words tell them.
func TestLevelToldElsewhere(t *testing.T) {
	for x, want := range []int{0, 1, 0, 2, 0, 1, 0, 3, 0, 1, 0, 2, 0, 1, 0, 4} {
		if got := math.Level(x); got != want {
			t.Errorf("Level(%d): %d; want %d", x, got, want)
		}
	}
	for x, want := range map[int]int{1023: 10, 1022: 0, 1024: 0, 511: 9, 1535: 9, 2046: 0, 2045: 1, 2043: 2, 2039: 3} {
		if got := math.Level(x); got != want {
			t.Errorf("Level(%d): %d; want %d", x, got, want)
		}
	}
}

// P8.1: the level of each node, and of each leaf 0.
func TestLevel(t *testing.T) {
	for x, node := range laid(1024) {
		if got := math.Level(x); got != node.level {
			t.Errorf("Level(%d): %d; want %d", x, got, node.level)
		}
	}
	for i := range 1024 {
		if got := math.Level(2 * i); got != 0 {
			t.Errorf("of leaf %d: %d", i, got)
		}
	}
}

// P8.1: the level of another number than a node, of such too whose lowest bits are 1.
func TestLevelOfNone(t *testing.T) {
	for _, x := range append(wrongNodes(last), -1, 2047, 2049, 3071, 4095) {
		if got := math.Level(x); got != 0 {
			t.Errorf("Level(%d): %d; want 0", x, got)
		}
	}
}

// P8.1: the children of each node that has such.
func TestChildren(t *testing.T) {
	for x, node := range laid(1024) {
		if node.level == 0 {
			continue
		}
		left, e := math.Left(x)
		isNumber(t, left, e, node.left, "Left", x)
		right, e := math.Right(x)
		isNumber(t, right, e, node.right, "Right", x)
	}
}

// P8.1: children of 8 leaves, and of the node over 1024 ones.
func TestChildrenToldElsewhere(t *testing.T) {
	for _, x := range [][3]int{{1, 0, 2}, {3, 1, 5}, {5, 4, 6}, {7, 3, 11}, {9, 8, 10}, {11, 9, 13}, {13, 12, 14}, {1023, 511, 1535}, {2045, 2044, 2046}} {
		left, e := math.Left(x[0])
		isNumber(t, left, e, x[1], "Left", x[0])
		right, e := math.Right(x[0])
		isNumber(t, right, e, x[2], "Right", x[0])
	}
}

// P8.1: a child of a leaf, and of what is no node.
func TestChildrenRefuse(t *testing.T) {
	wrong := wrongNodes(last)
	for i := range 1024 {
		wrong = append(wrong, 2*i)
	}
	for _, x := range wrong {
		left, e := math.Left(x)
		isZero(t, left, e, api.ErrArg, "Left", x)
		right, e := math.Right(x)
		isZero(t, right, e, api.ErrArg, "Right", x)
	}
}
