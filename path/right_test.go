package path_test

import (
	"slices"
	"testing"

	"pyx/api"
	"pyx/path"
)

// isRight asks whether seeds are right, and whether the model has it so.
func isRight(t *testing.T, of []api.Node, me int, own []api.Seed, want bool, what ...any) {
	t.Helper()
	if got, model := path.Right(of, me, own), rightOf(of, me, own); got != want || model != want {
		t.Errorf("%v: leaf %d: right: %v, and by the model %v; want %v:\n%s", what, me, got, model, want, toldSeeds(own))
	}
}

// P11.1: the seeds that a leaf must know are right; so are all that it may know.
func TestRight(t *testing.T) {
	for _, of := range woods() {
		for _, me := range there(of) {
			isRight(t, of, me, ownOf(of, me), true, "must")
			isRight(t, of, me, knownOf(of, me), true, "may")
		}
	}
	isRight(t, full(1), 0, []api.Seed{{Node: 0, Seed: seedAt(0)}}, true)
	isRight(t, whole(4), 2, []api.Seed{{Node: 3, Seed: seedAt(3)}, {Node: 4, Seed: seedAt(4)}, {Node: 5, Seed: seedAt(5)}}, true)
	isRight(t, whole(1024), 700, ownOf(whole(1024), 700), true)
	isRight(t, whole(1024), 700, but(ownOf(whole(1024), 700), 1023), false)
}

// P11.1: a seed that lacks, be it the leaf's own or a Parent's; but for a Parent whose Un tells the leaf.
func TestRightOfLacking(t *testing.T) {
	for _, of := range woods() {
		for _, me := range there(of) {
			for _, seed := range ownOf(of, me) {
				isRight(t, of, me, but(ownOf(of, me), seed.Node), false, "without node", seed.Node)
				isRight(t, of, me, but(knownOf(of, me), seed.Node), false, "without node", seed.Node)
			}
			isRight(t, of, me, nil, false, "none")
			isRight(t, of, me, []api.Seed{}, false, "none")
			for _, seed := range knownOf(of, me) {
				must := slices.ContainsFunc(ownOf(of, me), func(s api.Seed) bool { return s.Node == seed.Node })
				isRight(t, of, me, but(knownOf(of, me), seed.Node), !must, "without node", seed.Node)
			}
		}
	}
}

// P11.1: of a Parent whose Un tells the leaf a seed may be there or not, but only the node's own.
func TestRightOfUn(t *testing.T) {
	of := put(whole(4), map[int]api.Node{1: over(1, 1), 3: over(3, 0, 1, 3)})
	isRight(t, of, 1, []api.Seed{{Node: 2, Seed: seedAt(2)}}, true)
	isRight(t, of, 1, []api.Seed{{Node: 1, Seed: seedAt(1)}, {Node: 2, Seed: seedAt(2)}}, true)
	isRight(t, of, 1, []api.Seed{{Node: 2, Seed: seedAt(2)}, {Node: 3, Seed: seedAt(3)}}, true)
	isRight(t, of, 1, []api.Seed{{Node: 2, Seed: seedAt(2)}, {Node: 3, Seed: seedAt(1)}}, false)
	isRight(t, of, 1, []api.Seed{{Node: 1, Seed: nil}, {Node: 2, Seed: seedAt(2)}}, false)
	isRight(t, of, 0, []api.Seed{{Node: 0, Seed: seedAt(0)}}, false)
	isRight(t, of, 0, []api.Seed{{Node: 0, Seed: seedAt(0)}, {Node: 1, Seed: seedAt(1)}}, true)
	isRight(t, of, 2, []api.Seed{{Node: 4, Seed: seedAt(4)}, {Node: 5, Seed: seedAt(5)}}, false)
	isRight(t, of, 3, []api.Seed{{Node: 5, Seed: seedAt(5)}, {Node: 6, Seed: seedAt(6)}}, true)
}

// P11.1: one too many: of each other node of the tree, with its own seed, and of nodes that there aren't.
func TestRightOfTooMany(t *testing.T) {
	for _, of := range woods() {
		for _, me := range there(of) {
			known := knownOf(of, me)
			for x := -2; x < len(of)+3; x++ {
				if slices.ContainsFunc(known, func(s api.Seed) bool { return s.Node == x }) {
					continue
				}
				for _, seed := range [][]byte{seedAt(x), seedAt(2 * me), nil} {
					isRight(t, of, me, sorted(append(slices.Clone(known), api.Seed{Node: x, Seed: seed})), false, "with node", x)
				}
			}
			for _, x := range []int{least, greatest, 1 << 32, 2047, 2046 + 1<<32} {
				isRight(t, of, me, sorted(append(slices.Clone(known), api.Seed{Node: x, Seed: seedAt(2 * me)})), false, "with node", x)
			}
		}
	}
}

// P11.1: a seed twice, and two that aren't in order.
func TestRightOfOrder(t *testing.T) {
	for _, of := range woods() {
		for _, me := range there(of) {
			known := knownOf(of, me)
			for k := range known {
				isRight(t, of, me, slices.Insert(slices.Clone(known), k, known[k]), false, "twice", k)
				other := slices.Clone(known)
				other[0], other[k] = other[k], other[0]
				isRight(t, of, me, other, k == 0, "changed over", k)
			}
			isRight(t, of, me, slices.Concat(known, known), false, "all twice")
			other := slices.Clone(known)
			slices.Reverse(other)
			isRight(t, of, me, other, len(known) == 1, "falling")
		}
	}
	own := ownOf(whole(8), 3)
	isRight(t, whole(8), 3, []api.Seed{own[1], own[0], own[2], own[3]}, false)
	isRight(t, whole(8), 3, []api.Seed{own[0], own[1], own[3], own[2]}, false)
	isRight(t, whole(8), 3, []api.Seed{own[0], own[1], own[1], own[3]}, false)
	isRight(t, whole(8), 3, own, true)
}

// P11.1: a seed of another length, 31 and 33 bytes among them, or of another half, at each node.
func TestRightOfOtherSeeds(t *testing.T) {
	for _, of := range woods() {
		for _, me := range there(of) {
			for k, seed := range knownOf(of, me) {
				longer := append(slices.Clone(seed.Seed), 0)
				others := [][]byte{nil, {}, seed.Seed[:31], longer, seed.Seed[:1], slices.Concat(seed.Seed, seed.Seed), of[seed.Node].Pub, seedAt(seed.Node + 1), make([]byte, 32)}
				for _, other := range others {
					own := knownOf(of, me)
					own[k].Seed = other
					isRight(t, of, me, own, false, seed.Node, len(other))
				}
				for _, at := range []int{0, 15, 31} {
					own := clonedSeeds(knownOf(of, me))
					own[k].Seed[at] ^= 1
					isRight(t, of, me, own, false, seed.Node, "byte", at)
				}
			}
		}
	}
}

// P11.1: seeds are right for one leaf, and not for another one.
func TestRightForOneLeaf(t *testing.T) {
	for _, of := range woods() {
		for _, me := range there(of) {
			for other := range all(of)[1] {
				isRight(t, of, other, ownOf(of, me), other == me, me)
			}
		}
	}
}

// P11.1: a public half of the tree is another one: no seed is right any more.
func TestRightOfOtherTree(t *testing.T) {
	of := whole(8)
	for _, x := range []int{3, 5, 6, 7} {
		for _, at := range []int{0, 31} {
			other := clonedAll(of)
			other[x].Pub[at] ^= 1
			isRight(t, other, 3, ownOf(of, 3), false, x)
		}
		if x != 6 {
			isRight(t, put(of, map[int]api.Node{x: {}}), 3, ownOf(of, 3), false, "Blank", x)
			isRight(t, put(of, map[int]api.Node{x: {}}), 3, but(ownOf(of, 3), x), true, "Blank", x)
		}
	}
	for _, x := range []int{0, 1, 2, 4, 9, 11, 13, 14} {
		isRight(t, put(of, map[int]api.Node{x: {}}), 3, ownOf(of, 3), true, "off the way", x)
	}
}

// P11.1: no such leaf, or a Blank one, whatever is known.
func TestRightRefuses(t *testing.T) {
	for _, n := range sizes()[:6] {
		for _, of := range [][]api.Node{full(n), whole(n), some(n, n-1)} {
			for _, me := range noLeaves(n) {
				isRight(t, of, me, nil, false, n)
				isRight(t, of, me, []api.Seed{{Node: 2 * me, Seed: seedAt(2 * me)}}, false, n)
				isRight(t, of, me, ownOf(of, n-1), false, n)
			}
		}
	}
	isRight(t, mixed(), 5, nil, false)
	isRight(t, mixed(), 5, but(ownOf(whole(8), 5), 11, 3), false)
	isRight(t, mixed(), 5, []api.Seed{{Node: 7, Seed: seedAt(7)}, {Node: 9, Seed: seedAt(9)}}, false)
	isRight(t, put(whole(2), map[int]api.Node{2: {}}), 1, []api.Seed{{Node: 1, Seed: seedAt(1)}}, false)
}
