package hash_test

import (
	"bytes"
	"fmt"
	"slices"
	"sync"
	"testing"

	"pyx/api"
	"pyx/hash"
	"pyx/tree"
)

// draws tells numbers that hang on the first one alone.
type draws uint64

// below is the next number, from 0 to one less than n.
func (d *draws) below(n int) int {
	*d = *d*6364136223846793005 + 1442695040888963407
	return int(uint64(*d)>>33) % n
}

// P10.5: behind Laid of a leaf all of whose path is laid anew, without Un, each Parent of the path is held by the node below it.
func TestLaidHolds(t *testing.T) {
	for _, n := range sizes()[:8] {
		for i := range n {
			if n > 16 && i%13 > 1 {
				continue
			}
			of := full(n)
			for _, s := range path(of, i) {
				of[s.node()] = over(s.node() + i)
			}
			got, e := hash.Laid(of, i)
			if e != api.OK || !hash.Held(got) {
				t.Errorf("of %d leaves leaf %d: error %d, and not held", n, i, e)
			}
			below := 2 * i
			for _, s := range slices.Backward(path(of, i)) {
				want, e := hash.Above(got, s.node(), s.side(i))
				isBytes(t, got[below].Hash, e, want, "leaf", i, "node", below, "tells", s.node())
				below = s.node()
			}
		}
	}
}

// P10.5: so it is beside Parents that were there ahead of it, with Un and without, of which none is on the path.
func TestLaidHoldsBesideOthers(t *testing.T) {
	for i := range 8 {
		of := put(whole(8), map[int]api.Node{})
		for x, s := range all(of).under() {
			if !s.isLeaf() && !s.holds(i) {
				of[x] = hashed(over(x, s[0]))
			}
		}
		got, _ := hash.Laid(of, i)
		below := 2 * i
		for _, s := range slices.Backward(path(of, i)) {
			if by := holders(got, s)[s.side(i)]; len(by) != 1 || by[0] != below {
				t.Errorf("leaf %d: node %d is held by %v; want %d", i, s.node(), by, below)
			}
			below = s.node()
		}
	}
}

// laidAnew is a tree in which a leaf lays its path anew, as a commit does: nodes beside which nobody is are Blank.
func laidAnew(t *testing.T, of []api.Node, i, seed int) []api.Node {
	t.Helper()
	out := clonedAll(of)
	out[2*i].Pub = half(seed)
	for _, s := range path(of, i) {
		out[s.node()] = api.Node{}
		if len(resolved(of, s.halves()[1-s.side(i)])) > 0 {
			out[s.node()] = over(seed + s.node())
		}
	}
	got, e := hash.Laid(out, i)
	if e != api.OK || told(got) != told(laidOf(out, i)) {
		t.Fatalf("Laid(%d): error %d, and\n%swant\n%s", i, e, told(got), told(laidOf(out, i)))
	}
	return got
}

// stepped is a tree behind one thing that was drawn: a leaf comes, goes, is changed, or lays its path anew.
func stepped(t *testing.T, of []api.Node, d *draws) []api.Node {
	t.Helper()
	i, name, seed := d.below((len(of)+1)/2), d.below(30), d.below(200)
	got := of
	switch d.below(8) {
	case 0, 1, 2:
		got, _, _ = tree.Add(of, name, half(seed))
	case 3:
		got, _ = tree.Remove(of, i)
	case 4:
		got, _ = tree.Update(of, i, half(seed))
	default:
		if of[2*i].Kind != api.Blank {
			got = laidAnew(t, of, i, seed)
		}
	}
	return got
}

// P10.3, P10.4: a tree whose paths are all laid is held, whoever comes, goes, is changed or lays in between; each answer is the model's.
func TestHistories(t *testing.T) {
	met := 0
	for seed := range 20 {
		d := draws(seed)
		of := full(1)
		for range 80 {
			of = stepped(t, of, &d)
			if !tree.Right(of) {
				t.Fatalf("not right:\n%s", told(of))
			}
			isHeld(t, of, true, seed)
			isDigest(t, of, all(of).node(), digestOf(of, all(of)))
			for x, n := range of {
				met += len(n.Un)
				if n.Kind == api.Parent {
					s := all(of).under()[x]
					isAbove(t, of, x, 0, aboveOf(of, s, 0))
					isAbove(t, of, x, 1, aboveOf(of, s, 1))
				}
			}
		}
	}
	if met < 500 {
		t.Errorf("%d leaves among Un were met only", met)
	}
}

// P10.4: trees that are held, or not, behind one to three changes, are told so as the model has them.
func TestHeldAsModel(t *testing.T) {
	count := map[bool]int{}
	for seed := range 40 {
		d := draws(seed + 1000)
		of := full(1)
		for range 30 {
			of = stepped(t, of, &d)
		}
		for range 40 {
			other := clonedAll(of)
			for range 1 + d.below(3) {
				x, to := d.below(len(of)), d.below(len(of))
				switch d.below(5) {
				case 0:
					other[x].Hash = bytes.Clone(other[to].Hash)
				case 1:
					other[x].Un = append(other[x].Un, to/2)
				case 2:
					other[x].Un = nil
				case 3:
					other[x].Pub = half(d.below(3))
				default:
					other[x] = api.Node{}
				}
			}
			if tree.Right(other) {
				want := heldOf(other)
				count[want]++
				isHeld(t, other, want, seed)
			}
		}
	}
	if count[true] < 100 || count[false] < 100 {
		t.Errorf("of %d held ones, and %d others", count[true], count[false])
	}
}

// lent is a tree whose rows are cut of longer ones, so that something lies behind each of them in the same memory.
type lent struct {
	nodes []api.Node
	rows  [][]byte
	nums  [][]int
}

// lend lays a tree in memory of its own, with something behind all of it.
func lend(of []api.Node) *lent {
	l := &lent{nodes: append(clonedAll(of), full(8)...)}
	bytesOf := func(x []byte) []byte {
		l.rows = append(l.rows, append(bytes.Clone(x), bytesOf(70, 3)...))
		return l.rows[len(l.rows)-1][:len(x)]
	}
	for x, n := range of {
		l.nums = append(l.nums, append(slices.Clone(n.Un), 71, 72, 73, 74))
		l.nodes[x].Pub, l.nodes[x].Un, l.nodes[x].Hash = bytesOf(n.Pub), l.nums[x][:len(n.Un)], bytesOf(n.Hash)
	}
	l.nodes = l.nodes[:len(of)]
	return l
}

// text is all of it, what lies behind included.
func (l *lent) text() string {
	return fmt.Sprintf("%s%x%v", told(l.nodes[:cap(l.nodes)]), l.rows, l.nums)
}

// askAll makes each call with a tree, for nodes and leaves that there are, and for some that there aren't.
func askAll(of []api.Node) {
	for x := -1; x <= len(of); x++ {
		hash.Tree(of, x)
		for side := -1; side < 3; side++ {
			hash.Above(of, x, side)
		}
		hash.Laid(of, x)
	}
	for _, n := range of {
		hash.Node(n)
	}
	hash.Held(of)
}

// R3: what is handed in stays as it was, with what lies behind it in the same memory.
func TestHandedInStays(t *testing.T) {
	for _, of := range append(woods(), allTold(8), laidOf(whole(8), 3)) {
		l := lend(of)
		was := l.text()
		askAll(l.nodes)
		if l.text() != was {
			t.Errorf("written into, or behind:\n%s", told(of))
		}
	}
}

// spoil writes into all of a tree's memory, what lies behind its rows included.
func spoil(of []api.Node) {
	for _, n := range of {
		for _, x := range [][]byte{n.Pub[:cap(n.Pub)], n.Hash[:cap(n.Hash)]} {
			for i := range x {
				x[i] ^= 255
			}
		}
		un := n.Un[:cap(n.Un)]
		for i := range un {
			un[i] = -5
		}
	}
	clear(of[:cap(of)])
}

// R3: who writes into the tree that Laid answers, be it beside an error, doesn't change what was handed in, nor the other way.
func TestLaidSharesNothing(t *testing.T) {
	for _, of := range woods() {
		for i := -1; i <= all(of)[1]; i++ {
			in := clonedAll(of)
			got, _ := hash.Laid(in, i)
			spoil(got)
			if told(in) != told(of) {
				t.Errorf("leaf %d: who writes into the answer writes into what was handed in", i)
			}
			got, _ = hash.Laid(in, i)
			want := told(got)
			spoil(in)
			if told(got) != want {
				t.Errorf("leaf %d: who writes into what was handed in writes into the answer", i)
			}
		}
	}
}

// R3: the rows of one answer of Laid share nothing with one another, nor behind one another.
func TestLaidRowsShareNothing(t *testing.T) {
	for _, of := range woods() {
		for i := range all(of)[1] {
			got, _ := hash.Laid(of, i)
			was, want := clonedAll(got), told(got)
			for _, n := range got {
				_, _, _ = append(n.Pub, bytesOf(300, 8)...), append(n.Hash, bytesOf(300, 8)...), append(n.Un, upTo(50)...)
			}
			_ = append(got, full(8)...)
			if told(got) != want {
				t.Errorf("leaf %d: who adds to one row of the answer writes into another one", i)
			}
			for x := range got {
				got, _ := hash.Laid(of, i)
				clear(got[x].Hash[:cap(got[x].Hash)])
				if told(got[:x]) != told(was[:x]) || told(got[x+1:]) != told(was[x+1:]) {
					t.Errorf("leaf %d: who writes into the Hash of node %d writes into another one", i, x)
				}
			}
		}
	}
}

// R3: bytes and digests that are answered share nothing with the tree, nor with those that are answered later.
func TestBytesShareNothing(t *testing.T) {
	of := mixed()
	asked := []func() []byte{
		func() []byte { return hash.Node(of[3]) },
		func() []byte { return hash.Node(of[2]) },
		func() []byte { return hash.Node(of[5]) },
		func() []byte { d, _ := hash.Tree(of, 7); return d },
		func() []byte { d, _ := hash.Above(of, 7, 1); return d },
	}
	for i, ask := range asked {
		first := ask()
		want := bytes.Clone(first)
		for k := range first[:cap(first)] {
			first[:cap(first)][k] ^= 255
		}
		if told(of) != told(mixed()) || !bytes.Equal(ask(), want) {
			t.Errorf("call %d: who writes into the answer is seen later", i)
		}
	}
}

// R4: what is asked at the same time, of one tree, is answered as what is asked alone.
func TestAtTheSameTime(t *testing.T) {
	of := mixed()
	var asking sync.WaitGroup
	for i := range 16 {
		asking.Go(func() {
			for range 10 {
				isDigest(t, of, i%15, digestOf(mixed(), all(of).under()[i%15]))
				isAbove(t, of, 7, i%2, aboveOf(mixed(), all(of), i%2))
				isLaid(t, of, i%4, laidOf(mixed(), i%4))
				isHeld(t, of, false, i)
			}
		})
	}
	asking.Wait()
}

// answersAll makes each call with a row of nodes, right or not, and asks that it ends, and that errors are told with nothing beside them.
func answersAll(t *testing.T, of []api.Node, x, side int) {
	t.Helper()
	was := told(of)
	for _, n := range of {
		hash.Node(n)
	}
	if got, e := hash.Tree(of, x); (e != api.OK) != (got == nil) {
		t.Errorf("Tree(%d): error %d, and %x", x, e, got)
	}
	if got, e := hash.Above(of, x, side); (e != api.OK) != (got == nil) {
		t.Errorf("Above(%d, %d): error %d, and %x", x, side, e, got)
	}
	if got, e := hash.Laid(of, x); len(got) != len(of) || e != api.OK && told(got) != was {
		t.Errorf("Laid(%d): beside error %d another tree", x, e)
	}
	hash.Held(of)
	if told(of) != was {
		t.Errorf("written into:\n%s", was)
	}
}

// R1: no row of nodes, however wrong, and no number makes a call panic.
func TestAnswersAll(t *testing.T) {
	strange := []api.Node{{Kind: 3}, {Kind: -1, Un: []int{least, greatest}}, over(1, 9, 3, -1, 3, least, greatest, 1<<62), {Kind: api.Leaf, Un: []int{1}}, {Kind: api.Parent}, {}, leafOf(5), hashed(over(2)), {Name: 7, Hash: []byte{1}}, {Kind: api.Leaf, Name: least}, {Kind: greatest}}
	numbers := []int{-1, 0, 1, 2, 3, 5, 7, 8, 15, 2046, 2047, least, greatest, 1 << 62}
	d := draws(5)
	for n := range 34 {
		for range 10 {
			of := make([]api.Node, n)
			for x := range of {
				of[x] = strange[d.below(len(strange))]
			}
			for _, x := range numbers {
				answersAll(t, of, x, d.below(4)-1)
			}
		}
	}
	for _, of := range [][]api.Node{nil, {}, full(2048), full(1500), full(1024)[:2046], append(full(1024), api.Node{})} {
		for _, x := range numbers {
			answersAll(t, of, x, 0)
		}
	}
}

// R1: rows of as many nodes as no tree has have no node, and no leaf, and aren't held.
func TestRefusesLengths(t *testing.T) {
	for _, of := range [][]api.Node{nil, full(1)[:0], full(2)[:2], whole(4)[:4], full(3), whole(1024)[:2046], whole(2048)} {
		got, e := hash.Tree(of, 0)
		isRefused(t, got, e, api.ErrArg, "Tree", len(of))
		got, e = hash.Above(of, 1, 0)
		isRefused(t, got, e, api.ErrArg, "Above", len(of))
		isNotLaid(t, of, 0)
		if hash.Held(of) {
			t.Errorf("%d nodes are held", len(of))
		}
	}
}

// drawn is a tree that hangs on bytes: each node takes two of them.
func drawn(b []byte) []api.Node {
	of := make([]api.Node, len(b)/2%34)
	for x := range of {
		first, second := b[2*x], b[2*x+1]
		switch first % 8 {
		case 0, 1:
		case 2, 3, 4:
			of[x] = leafOf(int(second))
		case 5, 6:
			of[x] = over(int(second), int(second)/16, int(second)%16)
		default:
			of[x] = api.Node{Kind: int(second) % 4, Name: int(second) / 4, Pub: bytesOf(int(second)%3+31, x), Hash: bytesOf(int(second)%2*32, x)}
		}
	}
	return of
}

// R1: any row of nodes, and any numbers, are answered; a tree that is right as the model has it.
func FuzzAll(f *testing.F) {
	f.Add([]byte{}, 5, 0)
	f.Add([]byte{2, 7}, 0, 0)
	f.Add([]byte{2, 7, 5, 1, 2, 8}, 1, 1)
	f.Add([]byte{2, 7, 5, 1, 2, 8, 5, 1, 2, 9, 0, 0, 0, 0}, 3, 0)
	f.Add([]byte{7, 255, 6, 255, 1, 1, 1, 1}, least, greatest)
	f.Fuzz(func(t *testing.T, b []byte, x, side int) {
		of := drawn(b)
		answersAll(t, of, x, side)
		if !tree.Right(of) {
			return
		}
		isHeld(t, of, heldOf(of))
		s, is := all(of).under()[x]
		if !is {
			return
		}
		isDigest(t, of, x, digestOf(of, s))
		if of[x].Kind == api.Parent {
			isAbove(t, of, x, side&1, aboveOf(of, s, side&1))
		}
		if of[x].Kind == api.Leaf {
			isLaid(t, of, x/2, laidOf(of, x/2))
		}
	})
}
