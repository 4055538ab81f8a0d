package tree_test

import (
	"bytes"
	"fmt"
	"slices"
	"sync"
	"testing"

	"pyx/api"
	"pyx/tree"
)

// draws tells numbers that hang on the first one alone.
type draws uint64

// below is the next number, from 0 to one less than n.
func (d *draws) below(n int) int {
	*d = *d*6364136223846793005 + 1442695040888963407
	return int(uint64(*d)>>33) % n
}

// isAsModel asks that a tree is right, that it is the model's, and that all that is asked of it is as the model has it.
func isAsModel(t *testing.T, of []api.Node, m model) {
	t.Helper()
	if !tree.Right(of) || told(of) != told(m.nodes()) {
		t.Fatalf("right: %v\n%swant\n%s", tree.Right(of), told(of), told(m.nodes()))
	}
	for x, s := range m.spans() {
		isResolved(t, of, x, m.resolve(s)...)
	}
	for i, leaf := range m.leaf {
		isFound(t, of, leaf.Name, i)
	}
}

// step does to a tree and its model one thing that was drawn, and answers the tree then.
func step(t *testing.T, of []api.Node, m *model, d *draws) []api.Node {
	t.Helper()
	i, name, pub := d.below(m.many+2)-1, d.below(40), half(d.below(1000))
	_, isThere := m.leaf[i]
	switch d.below(8) {
	case 0, 1, 2:
		return stepAdd(t, of, m, name, pub)
	case 3, 4:
		got, e := tree.Remove(of, i)
		switch {
		case !isThere:
			isKept(t, got, e, api.ErrNone, of, "Remove", i)
		case len(m.leaf) == 1:
			isKept(t, got, e, api.ErrState, of, "Remove", i)
		default:
			gone := m.leaf[i].Name
			m.remove(i)
			isTree(t, got, e, m.nodes(), "Remove", i)
			isLost(t, got, gone)
		}
		return got
	case 5:
		got, e := tree.Update(of, i, pub)
		if !isThere {
			isKept(t, got, e, api.ErrNone, of, "Update", i)
			return got
		}
		m.update(i, pub)
		isTree(t, got, e, m.nodes(), "Update", i)
		return got
	}
	return stepLay(of, m, d)
}

// stepAdd lets a leaf come to a tree and its model, or sees that it may not.
func stepAdd(t *testing.T, of []api.Node, m *model, name int, pub []byte) []api.Node {
	t.Helper()
	_, isHad := m.find(name)
	got, at, e := tree.Add(of, name, pub)
	if isHad {
		isKept(t, got, e, api.ErrHad, of, "Add", name)
		return got
	}
	if want := m.add(name, pub); at != want {
		t.Errorf("Add(%d): leaf %d; want %d", name, at, want)
	}
	isTree(t, got, e, m.nodes(), "Add", name)
	isFound(t, got, name, at)
	return got
}

// stepLay puts Parents over a leaf, some of whose others don't know them.
func stepLay(of []api.Node, m *model, d *draws) []api.Node {
	i := d.below(m.many)
	if _, is := m.leaf[i]; !is || m.many == 1 {
		return of
	}
	for _, s := range m.spans() {
		if s[1]-s[0] == 1 || !s.holds(i) || (s[0]+s[1]+i)%3 == 0 {
			continue
		}
		n := over(s[0] + s[1])
		for _, other := range m.below(s) {
			if other != i && (other*i+s[0])%4 == 1 {
				n.Un = append(n.Un, other)
			}
		}
		if s[1]%4 == 0 {
			n = hashed(n)
		}
		m.over[s] = n
	}
	return m.nodes()
}

// P9.6: whatever is done to a tree, it is right, and each call answers as a model does that reckons by halves.
func TestHistories(t *testing.T) {
	for seed := range 30 {
		d := draws(seed)
		name, pub := d.below(40), half(d.below(1000))
		of, e := tree.New(name, pub)
		m := emptyModel(1)
		m.leaf[0] = api.Node{Kind: api.Leaf, Name: name, Pub: pub}
		isTree(t, of, e, m.nodes(), "New", name)
		for range 150 {
			of = step(t, of, &m, &d)
			isAsModel(t, of, m)
		}
	}
}

// P9.6: a name that is added is found, where Add said, and one that is removed not any more; no other leaf is changed.
func TestOthersStay(t *testing.T) {
	of := mixed()
	added, at, _ := tree.Add(of, 5, half(5))
	isFound(t, added, 5, at)
	for i := range 8 {
		removed, _ := tree.Remove(added, i)
		updated, _ := tree.Update(added, i, half(6))
		isLost(t, removed, added[2*i].Name)
		isFound(t, updated, added[2*i].Name, i)
		for other := range 8 {
			if other == i {
				continue
			}
			want := told(added[2*other : 2*other+1])
			if told(removed[2*other:2*other+1]) != want || told(updated[2*other:2*other+1]) != want {
				t.Errorf("leaf %d is another one behind leaf %d went, or changed", other, i)
			}
		}
	}
}

// P9.6: what Resolve tells covers each leaf below that isn't Blank once, and no other one: a node covers those below it but its Un.
func TestResolveCovers(t *testing.T) {
	d := draws(77)
	for range 300 {
		m := emptyModel([]int{1, 2, 4, 8, 16, 32}[d.below(6)])
		for i := range m.many {
			if d.below(3) > 0 || i == 0 {
				m.leaf[i] = leafOf(i)
			}
		}
		for range 4 {
			stepLay(nil, &m, &d)
		}
		spans := m.spans()
		for x, s := range spans {
			times := map[int]int{}
			for _, node := range tree.Resolve(m.nodes(), x) {
				for _, i := range m.below(spans[node]) {
					if !slices.Contains(m.over[spans[node]].Un, i) {
						times[i]++
					}
				}
			}
			for i := range m.many {
				_, is := m.leaf[i]
				if want := is && s.holds(i); want && times[i] != 1 || !want && times[i] != 0 {
					t.Errorf("under node %d leaf %d is covered %d times", x, i, times[i])
				}
			}
		}
	}
}

// calls are all that answer a tree, once with an error, once without.
func calls() map[string]func(of []api.Node, pub []byte) []api.Node {
	add := func(of []api.Node, name int, pub []byte) []api.Node {
		out, _, _ := tree.Add(of, name, pub)
		return out
	}
	remove := func(of []api.Node, i int) []api.Node {
		out, _ := tree.Remove(of, i)
		return out
	}
	update := func(of []api.Node, i int, pub []byte) []api.Node {
		out, _ := tree.Update(of, i, pub)
		return out
	}
	return map[string]func(of []api.Node, pub []byte) []api.Node{
		"New": func(of []api.Node, pub []byte) []api.Node {
			out, _ := tree.New(5, pub)
			return out
		},
		"Add":               func(of []api.Node, pub []byte) []api.Node { return add(of, 5, pub) },
		"Add of no name":    func(of []api.Node, pub []byte) []api.Node { return add(of, -1, pub) },
		"Add again":         func(of []api.Node, pub []byte) []api.Node { return add(of, 100, pub) },
		"Remove":            func(of []api.Node, pub []byte) []api.Node { return remove(of, 0) },
		"Remove the last":   func(of []api.Node, pub []byte) []api.Node { return remove(of, (len(of)-1)/2) },
		"Remove none":       func(of []api.Node, pub []byte) []api.Node { return remove(of, -1) },
		"Update":            func(of []api.Node, pub []byte) []api.Node { return update(of, 3, pub) },
		"Update the first":  func(of []api.Node, pub []byte) []api.Node { return update(of, 0, pub) },
		"Update none":       func(of []api.Node, pub []byte) []api.Node { return update(of, 99, pub) },
		"Update to nothing": func(of []api.Node, pub []byte) []api.Node { return update(of, 3, pub[:31]) },
	}
}

// woods are trees that calls are made with.
func woods() [][]api.Node {
	shrinks := append(put(full(4), map[int]api.Node{3: hashed(over(3, 1, 2)), 1: over(1)}), make([]api.Node, 8)...)
	shrinks[14], shrinks[7] = leafOf(107), over(7, 0)
	return [][]api.Node{mixed(), full(8), full(4), shrinks, put(full(8), map[int]api.Node{7: over(1, upTo(8)...), 3: over(2, 0, 3)}), full(1), {hashed(leafOf(100))}}
}

// lent is bytes and numbers that a tree's rows are cut of, so that something lies behind each of them in the same memory.
type lent struct {
	nodes []api.Node
	rows  [][]byte
	nums  [][]int
}

// lend lays a tree in memory of its own, with something behind all of it.
func lend(of []api.Node) *lent {
	l := &lent{}
	bytesOf := func(x []byte) []byte {
		l.rows = append(l.rows, append(bytes.Clone(x), row(70, 3)...))
		return l.rows[len(l.rows)-1][:len(x)]
	}
	l.nodes = append(clonedAll(of), full(8)...)
	for x, n := range of {
		l.nums = append(l.nums, append(slices.Clone(n.Un), 71, 72, 73, 74))
		l.nodes[x].Pub, l.nodes[x].Un, l.nodes[x].Hash = bytesOf(n.Pub), l.nums[x][:len(n.Un)], bytesOf(n.Hash)
	}
	l.nodes = l.nodes[:len(of)]
	return l
}

// text is all of it, what lies behind included.
func (l *lent) text() string {
	return fmt.Sprintf("%s%x%v", told(l.nodes[:cap(l.nodes)]), l.rows, l.nums)
}

// R3: what is handed in stays as it was, with what lies behind it in the same memory.
func TestHandedInStays(t *testing.T) {
	for _, of := range woods() {
		for name, do := range calls() {
			l, pub := lend(of), row(100, 9)
			was := l.text()
			do(l.nodes, pub[:32])
			if l.text() != was || !bytes.Equal(pub, row(100, 9)) {
				t.Errorf("%s: written into, or behind", name)
			}
		}
		l, other := lend(of), lend(of)
		was := l.text()
		tree.Right(l.nodes)
		tree.Find(l.nodes, 103)
		tree.Same(l.nodes, other.nodes)
		for x := range of {
			tree.Resolve(l.nodes, x)
		}
		if l.text() != was || other.text() != was {
			t.Error("Right, Find, Same, or Resolve: written into, or behind")
		}
	}
}

// spoil writes into all of a tree's memory, what lies behind its rows included.
func spoil(of []api.Node) {
	for _, n := range of {
		for _, x := range [][]byte{n.Pub[:cap(n.Pub)], n.Hash[:cap(n.Hash)]} {
			for i := range x {
				x[i] ^= 255
			}
		}
		un := n.Un[:cap(n.Un)]
		for i := range un {
			un[i] = -5
		}
	}
	clear(of[:cap(of)])
}

// R3: who writes into an answer doesn't change what was handed in, nor the other way; errors answer a tree, too.
func TestNothingShared(t *testing.T) {
	for _, of := range woods() {
		for name, do := range calls() {
			in, pub := clonedAll(of), half(9)
			spoil(do(in, pub))
			if told(in) != told(of) || !bytes.Equal(pub, half(9)) {
				t.Errorf("%s: who writes into the answer writes into what was handed in", name)
			}
			got := do(in, pub)
			want := told(got)
			spoil(in)
			clear(pub)
			if told(got) != want {
				t.Errorf("%s: who writes into what was handed in writes into the answer", name)
			}
		}
	}
}

// R3: the rows of one answer share nothing with one another, nor behind one another.
func TestRowsShareNothing(t *testing.T) {
	for _, of := range woods() {
		for name, do := range calls() {
			got := do(of, half(9))
			want := told(got)
			for x, n := range got {
				_, _, _ = append(n.Pub, row(300, 8)...), append(n.Hash, row(300, 8)...), append(n.Un, upTo(50)...)
				got[x] = n
			}
			_ = append(got, full(8)...)
			if told(got) != want {
				t.Errorf("%s: who adds to one row of the answer writes into another one", name)
			}
		}
		for x := range of {
			first, second := tree.Resolve(of, x), tree.Resolve(of, x)
			want := slices.Clone(second)
			clear(first[:cap(first)])
			if !slices.Equal(second, want) || !slices.Equal(tree.Resolve(of, x), want) {
				t.Errorf("Resolve(%d): two answers share memory", x)
			}
		}
	}
}

// R4: what is asked at the same time, of one tree, is answered as what is asked alone.
func TestAtTheSameTime(t *testing.T) {
	of := mixed()
	var all sync.WaitGroup
	for i := range 16 {
		all.Go(func() {
			for range 30 {
				added, at, e := tree.Add(of, i, half(i))
				want := put(mixed(), map[int]api.Node{7: over(7, 0, 3, 4, 5, 7), 9: over(9, 5), 10: leafOf(i)})
				isTree(t, added, e, want, "Add", i)
				if at != 5 {
					t.Error(at)
				}
				isRemoved(t, of, 0, put(mixed(), map[int]api.Node{0: {}, 1: {}, 3: {}, 7: {}}))
				isResolved(t, of, 7, 7, 0, 6, 8, 14)
			}
		})
	}
	all.Wait()
}

// answersAll makes each call with a row of nodes, right or not, and asks that what beside an error is answered is as it was.
func answersAll(t *testing.T, of []api.Node, name, i int, pub []byte) {
	t.Helper()
	was := told(of)
	tree.Find(of, name)
	tree.Resolve(of, i)
	tree.Same(of, of)
	if got, at, e := tree.Add(of, name, pub); e != api.OK && (told(got) != was || at != 0) {
		t.Errorf("Add: beside error %d leaf %d, and another tree", e, at)
	}
	if got, e := tree.Remove(of, i); e != api.OK && told(got) != was {
		t.Errorf("Remove: beside error %d another tree", e)
	}
	if got, e := tree.Update(of, i, pub); e != api.OK && told(got) != was {
		t.Errorf("Update: beside error %d another tree", e)
	}
	if _, is := modelOf(of); tree.Right(of) != is {
		t.Errorf("right: %v:\n%s", tree.Right(of), was)
	}
	if told(of) != was {
		t.Errorf("written into:\n%s", was)
	}
}

// R1: no row of nodes, however wrong, and no number makes a call panic; where one is refused, the tree is what it was.
func TestAnswersAll(t *testing.T) {
	strange := []api.Node{{Kind: 3}, {Kind: -1, Un: []int{least, greatest}}, over(1, 9, 3, -1, 3), {Kind: api.Leaf, Un: []int{1}}, {Kind: api.Parent}, {}, leafOf(5), hashed(over(2)), {Name: 7, Hash: []byte{1}}}
	numbers := []int{-1, 0, 1, 2, 3, 4, 5, 7, 8, 15, 100, 2046, 2047, least, greatest, 65535, 65536}
	d := draws(5)
	for n := range 40 {
		for range 20 {
			of := make([]api.Node, n)
			for x := range of {
				of[x] = strange[d.below(len(strange))]
			}
			for _, i := range numbers {
				answersAll(t, of, i, i, half(1))
			}
		}
	}
	for _, of := range [][]api.Node{nil, {}, full(2048), full(1500), full(1024)[:2046], append(full(1024), api.Node{}), laid(3, 0, 2), laid(2048)} {
		for _, i := range numbers {
			answersAll(t, of, i, i, half(1))
		}
		answersAll(t, of, 5, 4, nil)
	}
}

// R1: rows of as many nodes as no tree has: no leaf comes, goes or changes, and they stay what they were.
func TestRefusesLengths(t *testing.T) {
	for _, of := range [][]api.Node{nil, full(1)[:0], full(2)[:2], full(3), full(1024)[:2046], full(2048)} {
		isNotAdded(t, of, 5, half(5), api.ErrArg)
		isNotRemoved(t, of, 0, api.ErrNone)
		isNotUpdated(t, of, 0, half(5), api.ErrNone)
		isLost(t, of, 100)
	}
}

// R1: trees that are right, with one to three things changed, are told right or not as the model has them.
func TestRightAsModel(t *testing.T) {
	d := draws(9)
	numbers := []int{-1, 0, 1, 2, 3, 4, 5, 6, 7, 100, 104, 65535, 65536, least, greatest}
	count := map[bool]int{}
	for range 20000 {
		of := clonedAll(woods()[d.below(len(woods()))])
		for range 1 + d.below(3) {
			x, to := d.below(len(of)), numbers[d.below(len(numbers))]
			switch d.below(6) {
			case 0:
				of[x].Kind = to
			case 1:
				of[x].Name = to
			case 2:
				of[x].Un = append(of[x].Un, to)
			case 3:
				of[x].Un = of[x].Un[:d.below(len(of[x].Un)+1)]
			case 4:
				of[x].Pub = row([]int{0, 31, 32, 33}[d.below(4)], 1)
			case 5:
				of[x].Hash = row([]int{0, 31, 32, 33}[d.below(4)], 1)
			}
		}
		_, is := modelOf(of)
		count[is]++
		if tree.Right(of) != is {
			t.Errorf("right: %v:\n%s", tree.Right(of), told(of))
		}
	}
	if count[true] < 1000 || count[false] < 1000 {
		t.Errorf("of %d right ones, and %d others", count[true], count[false])
	}
}

// drawn is a tree that hangs on bytes: each node takes two of them, and Un take more.
func drawn(b []byte) []api.Node {
	of := make([]api.Node, len(b)/2%40)
	for x := range of {
		first, second := b[2*x], b[2*x+1]
		switch first % 8 {
		case 0, 1:
		case 2, 3, 4:
			of[x] = leafOf(int(second))
		case 5, 6:
			of[x] = over(int(second), int(second)/16, int(second)%16)
		default:
			of[x] = api.Node{Kind: int(second) % 4, Name: int(second) / 4, Pub: row(int(second)%3+31, x), Hash: row(int(second)%2*32, x)}
		}
	}
	return of
}

// R1: any row of nodes, and any numbers, are answered; a tree that is right as the model has it.
func FuzzAll(f *testing.F) {
	f.Add([]byte{}, 5, 0, []byte{})
	f.Add([]byte{2, 7}, 5, 0, half(1))
	f.Add([]byte{2, 7, 0, 0, 2, 8}, 5, 1, half(1))
	f.Add([]byte{2, 7, 5, 1, 2, 8, 5, 1, 2, 9, 0, 0, 0, 0}, 5, 2, half(2))
	f.Add([]byte{7, 255, 6, 255, 1, 1, 1, 1}, least, greatest, half(3))
	f.Fuzz(func(t *testing.T, b []byte, name, i int, pub []byte) {
		of := drawn(b)
		answersAll(t, of, name, i, pub)
		m, is := modelOf(of)
		if !is {
			return
		}
		isAsModel(t, of, m)
		if name >= 0 && name <= 65535 && len(pub) == 32 {
			of = stepAdd(t, of, &m, name, pub)
			isAsModel(t, of, m)
		}
		if _, isThere := m.leaf[i]; isThere && len(m.leaf) > 1 {
			got, e := tree.Remove(of, i)
			m.remove(i)
			isTree(t, got, e, m.nodes(), "Remove", i)
		}
	})
}
