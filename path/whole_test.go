package path_test

import (
	"bytes"
	"fmt"
	"slices"
	"sync"
	"testing"

	"pyx/api"
	"pyx/hash"
	"pyx/path"
	"pyx/tree"
)

// The section Examples.
func TestExamples(t *testing.T) {
	m, e := path.Make(full(2), 0, newSeed, newSecret, nil)
	if e != api.OK || len(m.Path.Step) != 1 || len(m.Path.Step[0].For) != 1 {
		t.Errorf("of two leaves: error %d, and\n%s", e, toldPath(m.Path))
	}
}

// P11.4: what a leaf of trees of all kinds lays, each other one takes: the same tree and last secret, and seeds that are right behind both.
func TestMadeIsTaken(t *testing.T) {
	for _, of := range woods() {
		for _, i := range there(of) {
			m, e := path.Make(of, i, newSeed, newSecret, filled(i, 1))
			if e != api.OK || !path.Right(m.Tree, i, m.Own) {
				t.Errorf("leaf %d: error %d, and\n%s", i, e, toldMade(m))
			}
			for _, me := range others(of, i) {
				for _, own := range [][]api.Seed{ownOf(of, me), knownOf(of, me)} {
					got, e := path.Take(of, i, me, own, filled(i, 1), m.Path)
					if e != api.OK || !tree.Same(got.Tree, m.Tree) || !bytes.Equal(got.Last, m.Last) || !path.Same(got.Path, m.Path) || !path.Right(got.Tree, me, got.Own) {
						t.Errorf("leaf %d by leaf %d: error %d, and\n%swant\n%s", i, me, e, toldMade(got), toldMade(m))
					}
				}
			}
		}
	}
}

// P11.4: so it is in the greatest tree, of which each leaf takes.
func TestMadeIsTakenByAll(t *testing.T) {
	of := whole(1024)
	m, e := path.Make(of, 345, newSeed, newSecret, nil)
	if e != api.OK || !path.Right(m.Tree, 345, m.Own) || len(m.Own) != 11 {
		t.Fatalf("error %d, and\n%s", e, toldSeeds(m.Own))
	}
	for me := 0; me < 1024; me += 31 {
		got, e := path.Take(of, 345, me, ownOf(of, me), nil, m.Path)
		if e != api.OK || !tree.Same(got.Tree, m.Tree) || !bytes.Equal(got.Last, m.Last) || !path.Right(got.Tree, me, got.Own) {
			t.Errorf("by leaf %d: error %d, and\n%s", me, e, toldSeeds(got.Own))
		}
	}
}

// flock is a tree, and what each of its leaves knows.
type flock struct {
	tree []api.Node
	own  map[int][]api.Seed
	many int // seeds that were drawn
}

// fresh is a seed, or a secret, that wasn't there before.
func (f *flock) fresh() []byte {
	f.many++
	return sumOf([]byte("fresh"), num4(f.many))
}

// forget takes from all what they know of nodes that aren't there any more, or are Blank.
func (f *flock) forget() {
	for i, own := range f.own {
		f.own[i] = slices.DeleteFunc(own, func(s api.Seed) bool {
			return s.Node >= len(f.tree) || f.tree[s.Node].Kind == api.Blank
		})
	}
}

// add lets a leaf come, which knows its own seed alone.
func (f *flock) add(name int) {
	seed := f.fresh()
	if of, i, e := tree.Add(f.tree, name, publicOf(seed)); e == api.OK {
		f.tree, f.own[i] = of, []api.Seed{{Node: 2 * i, Seed: seed}}
	}
}

// remove lets a leaf go.
func (f *flock) remove(i int) {
	if of, e := tree.Remove(f.tree, i); e == api.OK {
		f.tree = of
		delete(f.own, i)
		f.forget()
	}
}

// update lets a leaf have another seed.
func (f *flock) update(i int) {
	seed := f.fresh()
	if of, e := tree.Update(f.tree, i, publicOf(seed)); e == api.OK {
		f.tree = of
		f.forget()
		f.own[i] = []api.Seed{{Node: 2 * i, Seed: seed}}
	}
}

// lay lets a leaf lay its path, and each other one take it.
func (f *flock) lay(t *testing.T, i int) {
	t.Helper()
	seed, secret, info := f.fresh(), f.fresh(), filled(f.many%5, f.many)
	m, e := path.Make(f.tree, i, seed, secret, info)
	isMade(t, m, e, makeOf(f.tree, i, seed, secret, info), "leaf", i)
	for me, own := range f.own {
		if me == i {
			continue
		}
		got, e := path.Take(f.tree, i, me, own, info, m.Path)
		isMade(t, got, e, takeOf(f.tree, i, me, own, secret, m.Path), "leaf", i, "by leaf", me)
		if !tree.Same(got.Tree, m.Tree) || !bytes.Equal(got.Last, m.Last) || !path.Same(got.Path, m.Path) {
			t.Errorf("leaf %d by leaf %d: what is taken isn't what was made", i, me)
		}
		f.own[me] = got.Own
	}
	f.tree, f.own[i] = m.Tree, m.Own
}

// P11.4: through drawn histories, in which leaves come, go, change and lay their paths, all know what they must, and the tree is held.
func TestHistories(t *testing.T) {
	unknown, taken := 0, 0
	for seed := range 12 {
		d := draws(seed)
		f := &flock{own: map[int][]api.Seed{}}
		first := f.fresh()
		f.tree, _ = tree.New(0, publicOf(first))
		f.own[0] = []api.Seed{{Node: 0, Seed: first}}
		for range 60 {
			i := there(f.tree)[d.below(len(there(f.tree)))]
			switch d.below(9) {
			case 0, 1, 2:
				f.add(d.below(100))
			case 3, 4:
				f.remove(i)
			case 5:
				f.update(i)
			default:
				taken += len(f.own) - 1
				f.lay(t, i)
			}
			if !tree.Right(f.tree) || !hash.Held(f.tree) || len(f.own) != len(there(f.tree)) {
				t.Fatalf("history %d: not right, or not held:\n%s", seed, told(f.tree))
			}
			for me, own := range f.own {
				isRight(t, f.tree, me, own, true, "history", seed)
			}
			for _, n := range f.tree {
				unknown += len(n.Un)
			}
		}
	}
	if unknown < 100 || taken < 500 {
		t.Errorf("%d leaves among Un were met, and %d paths taken only", unknown, taken)
	}
}

// lender hands out lists that are cut of longer ones, so that something lies behind each of them in the same memory.
type lender struct {
	rows  [][]byte
	nums  [][]int
	nodes [][]api.Node
	seeds [][]api.Seed
	steps [][]api.Step
	boxes [][]api.Sealed
}

func (l *lender) row(x []byte) []byte {
	l.rows = append(l.rows, append(bytes.Clone(x), filled(70, 3)...))
	return l.rows[len(l.rows)-1][:len(x)]
}

func (l *lender) tree(of []api.Node) []api.Node {
	out := append(slices.Clone(of), some(8, 1, 2)...)
	for x, n := range of {
		l.nums = append(l.nums, append(slices.Clone(n.Un), 71, 72, 73, 74))
		out[x].Pub, out[x].Un, out[x].Hash = l.row(n.Pub), l.nums[len(l.nums)-1][:len(n.Un)], l.row(n.Hash)
	}
	l.nodes = append(l.nodes, out)
	return out[:len(of)]
}

func (l *lender) own(own []api.Seed) []api.Seed {
	out := append(slices.Clone(own), api.Seed{Node: 5}, api.Seed{Node: 6}, api.Seed{Node: 7})
	for k, seed := range own {
		out[k].Seed = l.row(seed.Seed)
	}
	l.seeds = append(l.seeds, out)
	return out[:len(own)]
}

func (l *lender) path(p api.Path) api.Path {
	out := append(slices.Clone(p.Step), api.Step{Pub: filled(3, 3)}, api.Step{}, api.Step{})
	for k, s := range p.Step {
		boxes := append(slices.Clone(s.For), api.Sealed{B: filled(3, 3)}, api.Sealed{}, api.Sealed{})
		for n, box := range s.For {
			boxes[n] = api.Sealed{Half: l.row(box.Half), B: l.row(box.B)}
		}
		l.boxes = append(l.boxes, boxes)
		out[k] = api.Step{Pub: l.row(s.Pub), For: boxes[:len(s.For)]}
	}
	l.steps = append(l.steps, out)
	return api.Path{Pub: l.row(p.Pub), Step: out[:len(p.Step)]}
}

// text is all that was handed out, with what lies behind it.
func (l *lender) text() string {
	return fmt.Sprintf("%x %v %v %v %v %v", l.rows, l.nums, l.nodes, l.seeds, l.steps, l.boxes)
}

// R3: what is handed in stays as it was, with what lies behind it in the same memory, whether it is taken or not.
func TestHandedInStays(t *testing.T) {
	for _, of := range woods() {
		for _, i := range there(of)[:1] {
			l := &lender{}
			in, seed, secret, info := l.tree(of), l.row(newSeed), l.row(newSecret), l.row([]byte("info"))
			good, other := l.path(made(of, i)), l.path(laidPath())
			owns := map[int][]api.Seed{-1: l.own(knownOf(of, i))}
			for _, me := range others(of, i) {
				owns[me] = l.own(knownOf(of, me))
			}
			was := l.text()
			for me, own := range owns {
				path.Take(in, i, me, own, info, good)
				path.Take(in, i, me, own, info[:3], good)
				path.Take(in, i, me, own, info, other)
				path.Right(in, me, own)
				path.Right(in, i, own)
			}
			for k := -1; k <= all(of)[1]; k++ {
				path.Nodes(in, k)
				path.Make(in, k, seed, secret, info)
				path.Make(in, k, seed, seed, seed)
				path.Make(in, k, seed, secret[:31], info)
			}
			path.Same(good, good)
			path.Same(good, other)
			if l.text() != was {
				t.Errorf("written into, or behind:\n%s", told(of))
			}
		}
	}
}

// spoilRow writes into all of a row's memory, what lies behind it included.
func spoilRow(x []byte) {
	x = x[:cap(x)]
	for k := range x {
		x[k] ^= 255
	}
}

// madeRows are all rows of what was made.
func madeRows(m api.Made) [][]byte {
	out := [][]byte{m.Last}
	for _, n := range m.Tree {
		out = append(out, n.Pub, n.Hash)
	}
	for _, seed := range m.Own {
		out = append(out, seed.Seed)
	}
	for _, row := range rows(&m.Path) {
		out = append(out, *row)
	}
	return out
}

// spoilMade writes into all memory of what was made.
func spoilMade(m api.Made) {
	for _, row := range madeRows(m) {
		spoilRow(row)
	}
	for _, n := range m.Tree {
		un := n.Un[:cap(n.Un)]
		for k := range un {
			un[k] = -5
		}
	}
	for _, s := range m.Path.Step {
		clear(s.For[:cap(s.For)])
	}
	clear(m.Tree[:cap(m.Tree)])
	clear(m.Own[:cap(m.Own)])
	clear(m.Path.Step[:cap(m.Path.Step)])
}

// asked is a call of Make or of Take, with arguments that share nothing with those of another one.
type asked struct {
	tree         []api.Node
	own          []api.Seed
	path         api.Path
	seed, secret []byte
	info         []byte
	i, me        int // who takes; -1, where a path is made
}

func (a asked) cloned() asked {
	a.tree, a.own, a.path = clonedAll(a.tree), clonedSeeds(a.own), clonedPath(a.path)
	a.seed, a.secret, a.info = bytes.Clone(a.seed), bytes.Clone(a.secret), bytes.Clone(a.info)
	return a
}

func (a asked) ask(t *testing.T) api.Made {
	t.Helper()
	m, e := path.Make(a.tree, a.i, a.seed, a.secret, a.info)
	if a.me >= 0 {
		m, e = path.Take(a.tree, a.i, a.me, a.own, a.info, a.path)
	}
	if e != api.OK {
		t.Fatal(e)
	}
	return m
}

func (a asked) text() string {
	return toldMade(api.Made{Tree: a.tree, Own: a.own, Path: a.path}) + fmt.Sprintf("%x %x %x", a.seed, a.secret, a.info)
}

// spoil writes into all of the arguments.
func (a asked) spoil() {
	spoilRow(a.seed)
	spoilRow(a.secret)
	spoilRow(a.info)
	spoilMade(api.Made{Tree: a.tree, Own: a.own, Path: a.path})
}

// someAsked are calls of both kinds, of trees with and without Parents, and of one leaf.
func someAsked() []asked {
	var out []asked
	for _, of := range [][]api.Node{full(1), full(4), mixed(), put(whole(8), map[int]api.Node{11: over(11, 4, 7)}), some(8, 0, 5)} {
		for _, i := range there(of)[len(there(of))/2:] {
			a := asked{tree: of, i: i, me: -1, seed: newSeed, secret: newSecret, info: []byte("info")}
			out = append(out, a)
			for _, me := range others(of, i) {
				a.me, a.own, a.path = me, knownOf(of, me), made(of, i)
				out = append(out, a)
			}
		}
	}
	return out
}

// R3: who writes into what came out doesn't change what was handed in, nor the other way.
func TestMadeSharesNothing(t *testing.T) {
	for _, a := range someAsked() {
		in := a.cloned()
		want := in.text()
		spoilMade(in.ask(t))
		if in.text() != want {
			t.Errorf("leaf %d by %d: who writes into the answer writes into what was handed in", a.i, a.me)
		}
		got := in.ask(t)
		want = toldMade(got)
		in.spoil()
		if toldMade(got) != want {
			t.Errorf("leaf %d by %d: who writes into what was handed in writes into the answer", a.i, a.me)
		}
	}
}

// R3: the rows of one answer share nothing with one another, nor behind one another.
func TestMadeRowsShareNothing(t *testing.T) {
	for _, a := range someAsked() {
		many := len(madeRows(a.ask(t)))
		for k := range many {
			m := a.cloned().ask(t)
			was := madeRows(m)
			for n, row := range was {
				was[n] = bytes.Clone(row)
			}
			spoilRow(madeRows(m)[k])
			for n, row := range madeRows(m) {
				if n != k && !bytes.Equal(row, was[n]) {
					t.Errorf("leaf %d by %d: who writes into row %d writes into row %d", a.i, a.me, k, n)
				}
			}
		}
		m := a.cloned().ask(t)
		want := toldMade(m)
		for _, n := range m.Tree {
			_ = append(n.Un, upTo(50)...)
		}
		for _, s := range m.Path.Step {
			_ = append(s.For, make([]api.Sealed, 50)...)
		}
		_, _, _ = append(m.Tree, make([]api.Node, 50)...), append(m.Own, make([]api.Seed, 50)...), append(m.Path.Step, make([]api.Step, 50)...)
		if toldMade(m) != want {
			t.Errorf("leaf %d by %d: who adds to one list writes into another one", a.i, a.me)
		}
	}
}

// R4: what is asked at the same time, of one tree and of one path, is answered as what is asked alone.
func TestAtTheSameTime(t *testing.T) {
	of := mixed()
	p := made(of, 2)
	wantMade := toldMade(makeOf(of, 2, newSeed, newSecret, []byte("info")))
	own, wantTaken := map[int][]api.Seed{}, map[int]string{}
	for _, me := range others(of, 2) {
		own[me] = ownOf(of, me)
		wantTaken[me] = toldMade(takeOf(of, 2, me, own[me], newSecret, p))
	}
	var asking sync.WaitGroup
	for range 16 {
		asking.Go(func() {
			for me, seeds := range own {
				m, e := path.Make(of, 2, newSeed, newSecret, []byte("info"))
				x, ex := take(of, 2, me, seeds, p)
				if e != api.OK || ex != api.OK || toldMade(m) != wantMade || toldMade(x) != wantTaken[me] {
					t.Errorf("by leaf %d: errors %d and %d, and\n%s%s", me, e, ex, toldMade(m), toldMade(x))
				}
				isNodes(t, of, 2, 5, 3, 7)
				isRight(t, of, me, seeds, true)
				isSame(t, p, clonedPath(p), true)
			}
		})
	}
	asking.Wait()
}

// answersAll makes each call, with arguments right or not, and asks that it ends, that errors are told with nothing beside them, and that nothing is written into.
func answersAll(t *testing.T, of []api.Node, i, me int, own []api.Seed, p api.Path, seed []byte) {
	t.Helper()
	was := told(of) + toldSeeds(own) + toldPath(p)
	nothing := func(m api.Made, e api.Errno) {
		t.Helper()
		if e != api.OK {
			isNothing(t, m, e, e, i, me)
		} else if len(m.Tree) != len(of) {
			t.Errorf("leaf %d: %d nodes of %d", i, len(m.Tree), len(of))
		}
	}
	if got, e := path.Nodes(of, i); e != api.OK && len(got) > 0 {
		t.Errorf("Nodes(%d): error %d, and %v", i, e, got)
	}
	nothing(path.Make(of, i, seed, newSecret, nil))
	nothing(path.Make(of, i, newSeed, seed, seed))
	nothing(path.Make(of, i, newSeed, newSecret, seed))
	nothing(path.Take(of, i, me, own, nil, p))
	path.Right(of, me, own)
	path.Same(p, p)
	if told(of)+toldSeeds(own)+toldPath(p) != was {
		t.Errorf("written into:\n%s", was)
	}
}

// strange are nodes of which some may stand in no right tree.
func strange() []api.Node {
	return []api.Node{{Kind: 3}, {Kind: -1, Un: []int{least, greatest}}, over(1, 9, 3, -1, 3, least, greatest, 1<<62), {Kind: api.Leaf, Un: []int{1}}, {Kind: api.Parent}, {}, leafAt(5), hashed(over(2)), {Name: 7, Hash: []byte{1}}, {Kind: api.Leaf, Name: least}, {Kind: greatest, Pub: filled(32, 1)}, leafAt(0), leafAt(1), over(3, 0, 1)}
}

// R1: no row of nodes, however wrong, no numbers, seeds and paths make a call panic.
func TestAnswersAll(t *testing.T) {
	numbers := []int{-1, 0, 1, 2, 3, 5, 7, 8, 15, 2046, 2047, least, least + 1, greatest, 1 << 62}
	kinds := strange()
	d := draws(5)
	number := func() int { return numbers[d.below(len(numbers))] }
	for n := range 34 {
		for range 30 {
			of := make([]api.Node, n)
			for x := range of {
				of[x] = kinds[d.below(len(kinds))]
			}
			own := []api.Seed{{Node: number(), Seed: filled(d.below(3)+31, 1)}, {Node: number(), Seed: seedAt(d.below(9))}, {Node: number()}}
			for _, i := range numbers {
				p := laidPath()
				// A path as long as that leaf's, so that not all are of another form.
				if at, e := path.Nodes(of, i); e == api.OK {
					p.Step = make([]api.Step, len(at))
					for k := range p.Step {
						p.Step[k] = api.Step{Pub: filled(32, k), For: make([]api.Sealed, d.below(4))}
						for m := range p.Step[k].For {
							p.Step[k].For[m] = api.Sealed{Half: filled(31+d.below(3), m), B: filled(d.below(65), m)}
						}
					}
				}
				answersAll(t, of, i, number(), own, p, filled(31+d.below(3), 4))
			}
		}
	}
	for _, of := range [][]api.Node{nil, {}, full(2048), full(1500), full(1024)[:2046], append(full(1024), api.Node{})} {
		for _, i := range numbers {
			answersAll(t, of, i, 1, []api.Seed{{Node: 2, Seed: seedAt(2)}}, laidPath(), newSeed)
		}
	}
}

// R1: who takes a path, and is no leaf, or a Blank one, is answered.
func TestAnswersWhoIsNone(t *testing.T) {
	for _, of := range woods() {
		n := all(of)[1]
		for _, i := range there(of) {
			p := made(of, i)
			for _, me := range append(noLeaves(n), upTo(n)...) {
				for _, own := range [][]api.Seed{nil, ownOf(of, i), {{Node: 2 * me, Seed: seedAt(2 * me)}}} {
					if got, e := take(of, i, me, own, p); e != api.OK {
						isNothing(t, got, e, e, i, me)
					}
				}
			}
		}
	}
}

// drawnRow is a row of nodes that hangs on bytes: each node takes two of them.
func drawnRow(b []byte) []api.Node {
	of := make([]api.Node, len(b)/2%34)
	kinds := strange()
	for x := range of {
		first, second := int(b[2*x]), int(b[2*x+1])
		switch first % 8 {
		case 0, 1:
		case 2, 3, 4:
			of[x] = leafAt(x / 2)
		case 5, 6:
			of[x] = over(x, second/16, second%16)
		default:
			of[x] = kinds[second%len(kinds)]
		}
	}
	return of
}

// R1: any row of nodes, and any numbers, are answered; a tree that is right as the model has it.
func FuzzAll(f *testing.F) {
	f.Add([]byte{}, 5, 0, []byte{})
	f.Add([]byte{2, 7}, 0, 0, filled(32, 1))
	f.Add([]byte{2, 7, 5, 1, 2, 8}, 1, 0, filled(32, 2))
	f.Add([]byte{2, 7, 5, 1, 2, 8, 0, 0, 2, 9, 0, 0, 0, 0}, 0, 2, filled(33, 2))
	f.Add([]byte{7, 255, 6, 255, 1, 1, 1, 1}, least, greatest, filled(31, 2))
	f.Fuzz(func(t *testing.T, b []byte, i, me int, seed []byte) {
		of := drawnRow(b)
		answersAll(t, of, i, me, []api.Seed{{Node: 2, Seed: seed}}, laidPath(), seed)
		if !tree.Right(of) || !slices.Contains(there(of), i) {
			return
		}
		isMadeOf(t, of, i, newSeed, newSecret, seed)
		// A strange node may have another seed than that of its place.
		if i != me && slices.Contains(there(of), me) && rightOf(of, me, knownOf(of, me)) {
			isTaken(t, of, i, me, knownOf(of, me), made(of, i))
		}
	})
}
