package hash_test

import (
	"slices"
	"testing"

	"pyx/api"
	"pyx/hash"
)

// isHeld asks whether a tree is held.
func isHeld(t *testing.T, of []api.Node, want bool, what ...any) {
	t.Helper()
	if got := hash.Held(of); got != want || heldOf(of) != want {
		t.Errorf("%v: held: %v, and by the model %v; want %v:\n%s", what, got, heldOf(of), want, told(of))
	}
}

// telling is a tree in which a node tells what stands above the child on a side of a Parent.
func telling(of []api.Node, y int, s span, side int) []api.Node {
	return withHash(of, y, aboveOf(of, s, side))
}

// P10.4: a tree without Parents, be it of one leaf, and with Hashes that tell nothing.
func TestHeldWithoutParents(t *testing.T) {
	for _, n := range sizes() {
		isHeld(t, full(n), true, n)
		isHeld(t, some(n, n-1), true, n)
	}
	isHeld(t, []api.Node{hashed(leafOf(5))}, true)
	isHeld(t, put(full(2), map[int]api.Node{0: hashed(leafOf(5))}), true)
}

// P10.4: a Parent that is told on the left, on the right, on both sides, and on neither.
func TestHeldOnSides(t *testing.T) {
	of, s := whole(2), span{0, 2}
	isHeld(t, of, false, "neither")
	isHeld(t, telling(of, 0, s, 0), true, "left")
	isHeld(t, telling(of, 2, s, 1), true, "right")
	isHeld(t, put(of, map[int]api.Node{0: hashed(of[0]), 2: hashed(of[2])}), false, "others")
}

// P10.4: a node tells what stands above the child on its own side; what stands above the other one doesn't do.
func TestHeldOnOwnSide(t *testing.T) {
	of, s := whole(2), span{0, 2}
	isHeld(t, telling(of, 0, s, 1), false, "the left leaf tells the right side")
	isHeld(t, telling(of, 2, s, 0), false, "the right leaf tells the left side")
}

// P10.4: each Parent is asked for, and one that isn't told is enough, wherever it is.
func TestHeldAsksForEach(t *testing.T) {
	of := allTold(8)
	isHeld(t, of, true)
	for x := 1; x < len(of); x += 2 {
		right := all(of).under()[x].halves()[1].node()
		isHeld(t, withHash(of, right, nil), false, x)
		isHeld(t, withHash(of, right, half(5)), false, x)
	}
	isHeld(t, whole(8), false, "none is told")
	isHeld(t, laidOf(whole(8), 3), false, "those of one path are told")
}

// P10.4: below a Blank child any node of its resolution tells, however deep, and only one on that side.
func TestHeldThroughBlank(t *testing.T) {
	of := put(full(8), map[int]api.Node{7: over(7)})
	for i := range 8 {
		for side := range 2 {
			isHeld(t, telling(of, 2*i, all(of), side), side == i/4, i, side)
		}
	}
	of[3] = over(3, 2)
	of = telling(of, 3, all(of), 0)
	isHeld(t, of, false, "the child tells, but isn't told itself")
	isHeld(t, telling(of, 6, span{0, 4}, 1), true, "the child tells, and is told")
	isHeld(t, telling(of, 4, span{0, 4}, 1), false, "and is told by a leaf that is among its Un")
	of = telling(withHash(of, 3, nil), 0, all(of), 0)
	isHeld(t, telling(of, 6, span{0, 4}, 1), false, "a leaf that the child covers tells")
}

// P10.4: a leaf that a Parent covers isn't of the resolution, and so doesn't tell, unless it is among that one's Un.
func TestHeldByUnOfChild(t *testing.T) {
	for _, un := range [][]int{nil, {0}, {1}} {
		for i := range 2 {
			other := 1 - i
			of := put(whole(4), map[int]api.Node{1: over(1, un...), 5: {}})
			of = telling(of, 2*i, span{0, 4}, 0)
			isHeld(t, of, false, "node 1 isn't told", un, i)
			of = telling(of, 2*other, span{0, 2}, other)
			isHeld(t, of, slices.Contains(un, i), un, i)
		}
	}
}

// P10.4: a leaf that is among the Parent's own Un doesn't count: be it the child itself, below a Blank one, or among its Un, too.
func TestHeldWithoutOwnUn(t *testing.T) {
	for i := range 2 {
		of := put(full(2), map[int]api.Node{1: over(1, i)})
		isHeld(t, telling(of, 2*i, span{0, 2}, i), false, "the child", i)
		isHeld(t, telling(of, 2-2*i, span{0, 2}, 1-i), true, "the other child", i)
	}
	for i := range 8 {
		of := put(full(8), map[int]api.Node{7: over(7, i)})
		for k := range 8 {
			isHeld(t, telling(of, 2*k, all(of), k/4), i != k, i, k)
		}
	}
	of := put(full(4), map[int]api.Node{1: over(1, 0), 3: over(3, 0)})
	of = telling(telling(of, 0, span{0, 4}, 0), 2, span{0, 2}, 1)
	isHeld(t, of, false, "among the child's Un, too")
	of[3].Un = nil
	of = telling(telling(of, 0, span{0, 4}, 0), 2, span{0, 2}, 1)
	isHeld(t, of, true, "among the child's Un alone")
}

// P10.4: what is told counts without the Parent's Un: all that they are may be changed, but no other leaf of the other side.
func TestHeldWhateverUnAre(t *testing.T) {
	of := put(whole(8), map[int]api.Node{7: over(7, 5), 11: {}, 9: {}, 13: {}, 3: {}, 1: {}, 5: {}})
	of = telling(of, 0, all(of), 0)
	isHeld(t, of, true)
	isHeld(t, put(of, map[int]api.Node{10: leafOf(777)}), true, "leaf 5 is another one")
	isHeld(t, put(of, map[int]api.Node{10: hashed(of[10])}), true, "leaf 5 has a Hash")
	for _, i := range []int{4, 6, 7} {
		isHeld(t, put(of, map[int]api.Node{2 * i: leafOf(777)}), false, "another leaf", i)
		isHeld(t, put(of, map[int]api.Node{2 * i: {}}), false, "no leaf", i)
		isHeld(t, put(of, map[int]api.Node{7: over(7, min(5, i), max(5, i))}), false, "without another leaf", i)
	}
	for _, i := range []int{1, 2, 3} {
		isHeld(t, put(of, map[int]api.Node{2 * i: leafOf(777)}), true, "a leaf of the same side", i)
	}
}

// P10.4: each byte of what is told counts.
func TestHeldAsksForBytes(t *testing.T) {
	of := laidOf(whole(4), 1)
	isHeld(t, put(of, map[int]api.Node{5: {}}), false, "the other side is another one")
	of = laidOf(put(whole(4), map[int]api.Node{5: {}}), 1)
	isHeld(t, of, true)
	for _, x := range []int{1, 2} {
		for k := range 32 {
			other := clonedAll(of)
			other[x].Hash[k] ^= 1
			isHeld(t, other, false, x, k)
		}
		isHeld(t, withHash(of, x, nil), false, x)
	}
	for _, x := range []int{1, 3} {
		for k := range 32 {
			other := clonedAll(of)
			other[x].Pub[k] ^= 1
			isHeld(t, other, false, x, k)
		}
	}
}

// P10.4: the greatest tree with one path laid over Blank nodes, and with Parents that are all told, or all but one.
func TestHeldOfGreatest(t *testing.T) {
	of := full(1024)
	for _, s := range path(of, 700) {
		of[s.node()] = over(s.node(), 3)
		of[s.node()].Un = nil
	}
	of[1023].Un = []int{0, 3, 900}
	isHeld(t, laidOf(of, 700), true)
	isHeld(t, laidOf(of, 699), false)
	held := allTold(1024)
	if !hash.Held(held) {
		t.Error("all are told, and it isn't held")
	}
	for _, x := range []int{1, 1023, 511, 2045, 1022, 1024} {
		other := clonedAll(held)
		other[x].Pub[0] ^= 1
		if hash.Held(other) {
			t.Errorf("held though node %d is another one", x)
		}
	}
}

// allTold is a tree of n leaves, all there, under Parents alone, each of which its right child tells.
func allTold(n int) []api.Node {
	out := whole(n)
	tell(out, all(out))
	return out
}

// tell lets right children tell the Parents over and below a span: what is on the left goes first, as what is told hangs on it.
func tell(of []api.Node, s span) {
	if s.isLeaf() {
		return
	}
	halves := s.halves()
	tell(of, halves[0])
	of[halves[1].node()].Hash, _ = hash.Above(of, s.node(), 1)
	tell(of, halves[1])
}
