package path_test

import (
	"bytes"
	"slices"
	"testing"

	"pyx/api"
	"pyx/path"
	"pyx/sig"
	"pyx/tree"
)

// The seed and the first secret of the paths that are taken.
var (
	newSeed   = filled(32, 1)
	newSecret = filled(32, 2)
)

// made is the path that a leaf laid, by the model.
func made(of []api.Node, i int) api.Path {
	return makeOf(of, i, newSeed, newSecret, []byte("info")).Path
}

// take is what a leaf takes of another one's path.
func take(of []api.Node, i, me int, own []api.Seed, p api.Path) (api.Made, api.Errno) {
	return path.Take(of, i, me, own, []byte("info"), p)
}

// isTaken asks that a leaf takes a path as the model has it.
func isTaken(t *testing.T, of []api.Node, i, me int, own []api.Seed, p api.Path, what ...any) {
	t.Helper()
	got, e := take(of, i, me, own, p)
	isMade(t, got, e, takeOf(of, i, me, own, newSecret, p), append(what, "leaf", i, "by leaf", me)...)
}

// isNotTaken asks that a path isn't taken.
func isNotTaken(t *testing.T, of []api.Node, i, me int, own []api.Seed, p api.Path, want api.Errno, what ...any) {
	t.Helper()
	got, e := take(of, i, me, own, p)
	isNothing(t, got, e, want, append(what, "leaf", i, "by leaf", me)...)
}

// others are the leaves of a tree but one.
func others(of []api.Node, i int) []int {
	return slices.DeleteFunc(there(of), func(k int) bool { return k == i })
}

// lowest is the place of the lowest step of a leaf over another one.
func lowest(of []api.Node, i, me int) int {
	return slices.IndexFunc(steps(of, i), func(s span) bool { return s.holds(me) })
}

// opens is the place, among what a step was wrapped for, of the first node of which a seed is known; -1, if there is none.
func opens(of []api.Node, i, me int, own []api.Seed) int {
	cover := resolved(of, steps(of, i)[lowest(of, i, me)].beside(i))
	return slices.IndexFunc(cover, func(y int) bool {
		return slices.ContainsFunc(own, func(s api.Seed) bool { return s.Node == y })
	})
}

// P11.3: each path of trees of all kinds, taken by each other leaf, as the model has it, with what must be known, and with what may be.
func TestTake(t *testing.T) {
	for _, of := range woods() {
		for _, i := range there(of) {
			p := made(of, i)
			for _, me := range others(of, i) {
				isTaken(t, of, i, me, ownOf(of, me), p, "must")
				isTaken(t, of, i, me, knownOf(of, me), p, "may")
			}
		}
	}
}

// P11.3: the lowest step on the path of who takes it is the first one, one between, and the last one: so many seeds are learnt.
func TestTakeLearns(t *testing.T) {
	for me, want := range [][]int{nil, {1, 2, 3, 7}, {3, 4, 7}, {3, 6, 7}, {7, 8}, {7, 10}, {7, 12}, {7, 14}} {
		if me == 0 {
			continue
		}
		got, e := take(full(8), 0, me, ownOf(full(8), me), made(full(8), 0))
		var of []int
		for _, seed := range got.Own {
			of = append(of, seed.Node)
		}
		if e != api.OK || !slices.Equal(of, want) || !path.Right(got.Tree, me, got.Own) {
			t.Errorf("leaf %d: error %d, and seeds of %v; want %v", me, e, of, want)
		}
	}
}

// P11.3: seeds off the path stay, those of steps are laid anew, and those of nodes of the path that aren't steps go.
func TestTakeKeepsSeeds(t *testing.T) {
	of := whole(8)
	got, e := take(of, 0, 6, ownOf(of, 6), made(of, 0))
	secrets, _ := secretsOf(newSecret, 3)
	want := []api.Seed{{Node: 7, Seed: deriveOf(secrets[2], "node")}, {Node: 11, Seed: seedAt(11)}, {Node: 12, Seed: seedAt(12)}, {Node: 13, Seed: seedAt(13)}}
	if e != api.OK || toldSeeds(got.Own) != toldSeeds(want) {
		t.Errorf("error %d, and\n%swant\n%s", e, toldSeeds(got.Own), toldSeeds(want))
	}
	// Node 7 stands over leaf 0 and leaf 1 alone, and so is no step of theirs: it goes, and its seed, too.
	of = put(some(8, 0, 1), map[int]api.Node{1: over(1), 3: over(3), 7: over(7)})
	got, e = take(of, 0, 1, ownOf(of, 1), made(of, 0))
	want = []api.Seed{{Node: 1, Seed: deriveOf(newSecret, "node")}, {Node: 2, Seed: seedAt(2)}}
	if e != api.OK || toldSeeds(got.Own) != toldSeeds(want) || len(ownOf(of, 1)) != 4 {
		t.Errorf("error %d, and\n%swant\n%s", e, toldSeeds(got.Own), toldSeeds(want))
	}
}

// P11.3: the greatest tree.
func TestTakeOfGreatest(t *testing.T) {
	of := put(whole(1024), map[int]api.Node{511: over(511, 3, 5, 500), 1535: {}, 2043: over(2043, 1020)})
	for _, i := range []int{0, 700, 1023} {
		p := made(of, i)
		for _, me := range []int{1, 3, 500, 512, 701, 1020, 1022} {
			isTaken(t, of, i, me, ownOf(of, me), p)
		}
	}
	of = full(512)
	p := made(of, 300)
	for _, me := range []int{0, 255, 301, 511} {
		isTaken(t, of, 300, me, ownOf(of, me), p)
	}
}

// subsets are all choices of some of these seeds.
func subsets(own []api.Seed) [][]api.Seed {
	var out [][]api.Seed
	for bits := range 1 << len(own) {
		var some []api.Seed
		for k, seed := range own {
			if bits>>k&1 == 1 {
				some = append(some, seed)
			}
		}
		out = append(out, some)
	}
	return out
}

// P11.3: of seeds of which some lack: any that the secret was wrapped for will do; the others that are known stay, and no more.
func TestTakeOfLacking(t *testing.T) {
	for _, of := range [][]api.Node{full(4), whole(8), mixed(), put(whole(8), map[int]api.Node{11: over(11, 4, 7), 3: {}, 1: over(1, 0)})} {
		for _, i := range there(of) {
			p := made(of, i)
			for _, me := range others(of, i) {
				for _, own := range subsets(knownOf(of, me)) {
					if opens(of, i, me, own) < 0 {
						isNotTaken(t, of, i, me, own, p, api.ErrKey, toldSeeds(own))
					} else {
						isTaken(t, of, i, me, own, p, toldSeeds(own))
					}
				}
			}
		}
	}
}

// P11.3: no seed is known of the resolution: none at all, only those of nodes of the path, or only those below a Parent that lacks.
func TestTakeWithoutSeed(t *testing.T) {
	of := whole(8)
	p := made(of, 0)
	isNotTaken(t, of, 0, 5, nil, p, api.ErrKey)
	isNotTaken(t, of, 0, 5, []api.Seed{}, p, api.ErrKey)
	isNotTaken(t, of, 0, 5, but(ownOf(of, 5), 11), p, api.ErrKey)
	isNotTaken(t, of, 0, 5, []api.Seed{{Node: 7, Seed: seedAt(7)}}, p, api.ErrKey)
	isNotTaken(t, of, 0, 1, []api.Seed{{Node: 1, Seed: seedAt(1)}, {Node: 3, Seed: seedAt(3)}, {Node: 7, Seed: seedAt(7)}}, p, api.ErrKey)
	isTaken(t, of, 0, 5, []api.Seed{{Node: 11, Seed: seedAt(11)}}, p)
	isTaken(t, of, 0, 1, []api.Seed{{Node: 2, Seed: seedAt(2)}}, p)
}

// spoilt is a path with something done to it.
func spoilt(p api.Path, change func(p *api.Path)) api.Path {
	out := clonedPath(p)
	change(&out)
	return out
}

// P11.3: of two nodes of the resolution of which seeds are known the first one's is taken, and no other is looked at.
func TestTakeByFirstKnown(t *testing.T) {
	for _, of := range [][]api.Node{
		put(whole(8), map[int]api.Node{11: over(11, 4, 7)}),
		put(whole(8), map[int]api.Node{11: {}, 13: over(13, 6, 7)}),
	} {
		for _, i := range []int{0, 3} {
			p, own := made(of, i), knownOf(of, 7)
			cover := resolved(of, span{4, 8})
			first, leaf := opens(of, i, 7, own), len(cover)-1
			if first == leaf || cover[leaf] != 14 || len(but(own, 14)) != len(own)-1 {
				t.Fatalf("the resolution is %v", cover)
			}
			spoil := func(k int) api.Path {
				return spoilt(p, func(p *api.Path) { p.Step[2].For[k].B[0] ^= 1 })
			}
			isTaken(t, of, i, 7, own, spoil(leaf))
			isNotTaken(t, of, i, 7, own, spoil(first), api.ErrKey)
			isTaken(t, of, i, 7, ownOf(of, 7), spoil(first))
			isNotTaken(t, of, i, 7, ownOf(of, 7), spoil(leaf), api.ErrKey)
			isTaken(t, of, i, 7, but(own, 14), spoil(leaf))
		}
	}
}

// P11.3: what was wrapped for others may be anything: other bytes, none, and halves of any length.
func TestTakeWhateverOthersAreTold(t *testing.T) {
	for _, of := range [][]api.Node{full(8), mixed(), put(whole(8), map[int]api.Node{11: over(11, 4, 7)})} {
		for _, i := range []int{0, 3, 6} {
			for _, me := range others(of, i) {
				mine := [2]int{lowest(of, i, me), opens(of, i, me, ownOf(of, me))}
				p := spoilt(made(of, i), func(p *api.Path) {
					for k := range p.Step {
						for n := range p.Step[k].For {
							if mine != [2]int{k, n} {
								p.Step[k].For[n] = [...]api.Sealed{{}, {Half: filled(32, 5), B: filled(64, 5)}, {Half: filled(31, 5), B: filled(10, 5)}}[(k+n)%3]
							}
						}
					}
				})
				isTaken(t, of, i, me, ownOf(of, me), p)
			}
		}
	}
}

// P11.3: no leaf i, -1 and the one beyond the last among them, or a Blank one: ahead of all that is wrong with the path.
func TestTakeRefusesLeaves(t *testing.T) {
	for _, n := range sizes()[1:] {
		of := full(n)
		for _, i := range noLeaves(n) {
			for _, p := range []api.Path{{}, made(of, 0)} {
				isNotTaken(t, of, i, 1, ownOf(of, 1), p, api.ErrNone)
				isNotTaken(t, of, i, 0, nil, p, api.ErrNone)
			}
		}
	}
	for _, of := range woods() {
		for i := range all(of)[1] {
			if of[2*i].Kind == api.Blank {
				for _, me := range there(of) {
					isNotTaken(t, of, i, me, ownOf(of, me), api.Path{}, api.ErrNone)
					isNotTaken(t, of, i, me, ownOf(of, me), made(of, me), api.ErrNone)
				}
			}
		}
	}
}

// P11.3: i is me: ahead of all that is wrong with the path, or with what is known.
func TestTakeRefusesMe(t *testing.T) {
	for _, of := range woods() {
		for _, i := range there(of) {
			isNotTaken(t, of, i, i, ownOf(of, i), made(of, i), api.ErrArg)
			isNotTaken(t, of, i, i, nil, made(of, i), api.ErrArg)
			isNotTaken(t, of, i, i, ownOf(of, i), api.Path{}, api.ErrArg)
			isNotTaken(t, of, i, i, nil, api.Path{Pub: filled(31, 1)}, api.ErrArg)
		}
	}
}

// malformed are all ways in which a path may have another form: a step, or something wrapped, that lacks or is one too many, and a public half of another length.
func malformed(p api.Path) []api.Path {
	var out []api.Path
	add := func(change func(p *api.Path)) { out = append(out, spoilt(p, change)) }
	add(func(p *api.Path) { p.Step = append(p.Step, api.Step{}) })
	add(func(p *api.Path) { p.Step = append(p.Step, api.Step{Pub: filled(32, 1)}) })
	add(func(p *api.Path) { p.Step = append(p.Step, p.Step[len(p.Step)-1]) })
	add(func(p *api.Path) { p.Step = nil })
	for k, s := range p.Step {
		add(func(p *api.Path) { p.Step = slices.Delete(p.Step, k, k+1) })
		add(func(p *api.Path) { p.Step[k].For = append(p.Step[k].For, api.Sealed{}) })
		add(func(p *api.Path) { p.Step[k].For = append(p.Step[k].For, s.For[0]) })
		add(func(p *api.Path) { p.Step[k].For = p.Step[k].For[1:] })
		add(func(p *api.Path) { p.Step[k].For = p.Step[k].For[:len(s.For)-1] })
		add(func(p *api.Path) { p.Step[k].For = nil })
		for _, n := range []int{0, 1, 31, 33, 64} {
			add(func(p *api.Path) { p.Step[k].Pub = append(p.Step[k].Pub, filled(64, 1)...)[:n] })
		}
	}
	for _, n := range []int{0, 1, 31, 33, 64} {
		add(func(p *api.Path) { p.Pub = append(p.Pub, filled(64, 1)...)[:n] })
	}
	return out
}

// P11.3: a path of another form, be it where who takes it doesn't look: ahead of all that is wrong with what was wrapped, and with what is known.
func TestTakeRefusesForms(t *testing.T) {
	for _, of := range [][]api.Node{full(2), full(8), mixed(), put(whole(8), map[int]api.Node{11: over(11, 4, 7)})} {
		for _, i := range there(of) {
			for k, p := range malformed(made(of, i)) {
				for _, me := range others(of, i) {
					isNotTaken(t, of, i, me, ownOf(of, me), p, api.ErrForm, k)
					isNotTaken(t, of, i, me, nil, p, api.ErrForm, k)
					got, e := path.Take(of, i, me, ownOf(of, me), []byte("another"), p)
					isNothing(t, got, e, api.ErrForm, k)
				}
			}
		}
	}
}

// P11.3: a path of another leaf, or of the leaf in another tree, with other counts.
func TestTakeRefusesOtherPaths(t *testing.T) {
	isNotTaken(t, full(8), 0, 1, ownOf(full(8), 1), made(whole(8), 0), api.ErrForm)
	isNotTaken(t, full(8), 0, 1, ownOf(full(8), 1), made(full(4), 0), api.ErrForm)
	isNotTaken(t, full(4), 0, 1, ownOf(full(4), 1), made(full(8), 0), api.ErrForm)
	isNotTaken(t, full(1), 0, 0, ownOf(full(1), 0), made(full(1), 0), api.ErrArg)
	// As many steps, wrapped for as many: but for others.
	isNotTaken(t, full(8), 0, 1, ownOf(full(8), 1), made(full(8), 5), api.ErrKey)
	isNotTaken(t, full(8), 0, 1, ownOf(full(8), 1), made(full(8), 1), api.ErrKey)
}

// boxed asks for what is answered where what was wrapped for a leaf is another: an error, ahead of public halves that aren't those of the seeds.
func boxed(t *testing.T, of []api.Node, i, me int, want api.Errno, change func(box *api.Sealed)) {
	t.Helper()
	k, n := lowest(of, i, me), opens(of, i, me, ownOf(of, me))
	p := spoilt(made(of, i), func(p *api.Path) { change(&p.Step[k].For[n]) })
	isNotTaken(t, of, i, me, ownOf(of, me), p, want, "step", k)
	p.Step[k].Pub = filled(32, 7)
	isNotTaken(t, of, i, me, ownOf(of, me), p, want, "step", k, "and its half")
}

// P11.3: a half that has not 32 bytes: ahead of what is wrong with the bytes; and a half that is another one.
func TestTakeRefusesHalves(t *testing.T) {
	for _, of := range [][]api.Node{full(8), mixed(), whole(4)} {
		for _, me := range others(of, 0) {
			for _, n := range []int{0, 1, 16, 31, 33, 64} {
				boxed(t, of, 0, me, api.ErrKey, func(box *api.Sealed) { box.Half = append(box.Half, filled(64, 1)...)[:n] })
				boxed(t, of, 0, me, api.ErrKey, func(box *api.Sealed) { box.Half, box.B = filled(n, 1), nil })
				boxed(t, of, 0, me, api.ErrKey, func(box *api.Sealed) { box.Half, box.B = nil, box.B[:31] })
			}
			for _, at := range []int{0, 31} {
				boxed(t, of, 0, me, api.ErrKey, func(box *api.Sealed) { box.Half[at] ^= 1 })
			}
		}
	}
}

// P11.3: bytes that were changed, that lack, that are too many, and fewer than a tag has.
func TestTakeRefusesBytes(t *testing.T) {
	for _, of := range [][]api.Node{full(8), mixed(), whole(4)} {
		for _, me := range others(of, 0) {
			for at := range 64 {
				boxed(t, of, 0, me, api.ErrKey, func(box *api.Sealed) { box.B[at] ^= 128 })
			}
			boxed(t, of, 0, me, api.ErrKey, func(box *api.Sealed) { box.B = append(box.B, 0) })
			boxed(t, of, 0, me, api.ErrKey, func(box *api.Sealed) { box.B = box.B[:63] })
			boxed(t, of, 0, me, api.ErrKey, func(box *api.Sealed) { box.B = box.B[:32] })
			boxed(t, of, 0, me, api.ErrShort, func(box *api.Sealed) { box.B = box.B[:31] })
			boxed(t, of, 0, me, api.ErrShort, func(box *api.Sealed) { box.B = nil })
		}
	}
}

// rewrap wraps another secret for the node that a box was wrapped for.
func rewrap(t *testing.T, of []api.Node, i, me int, secret []byte) func(box *api.Sealed) {
	t.Helper()
	cover := resolved(of, steps(of, i)[lowest(of, i, me)].beside(i))
	half := of[cover[opens(of, i, me, ownOf(of, me))]].Pub
	return func(box *api.Sealed) {
		var e api.Errno
		if box.Half, box.B, e = sig.Wrap(half, filled(32, 9), []byte("info"), secret); e != api.OK {
			t.Fatal(e)
		}
	}
}

// P11.3: what is unwrapped has another length than 32, 31 and 33 among them; or it has 32, and is another secret.
func TestTakeRefusesSecrets(t *testing.T) {
	for _, of := range [][]api.Node{full(8), mixed(), whole(4)} {
		for _, me := range others(of, 0) {
			for _, n := range []int{0, 1, 16, 31, 33, 64, 100} {
				boxed(t, of, 0, me, api.ErrForm, rewrap(t, of, 0, me, filled(n, 5)))
			}
			boxed(t, of, 0, me, api.ErrKey, rewrap(t, of, 0, me, filled(32, 5)))
			secrets, last := secretsOf(newSecret, 4)
			k := lowest(of, 0, me)
			boxed(t, of, 0, me, api.ErrKey, rewrap(t, of, 0, me, secrets[k+1]))
			boxed(t, of, 0, me, api.ErrKey, rewrap(t, of, 0, me, deriveOf(secrets[k], "node")))
			boxed(t, of, 0, me, api.ErrKey, rewrap(t, of, 0, me, last))
			// The step's own secret, wrapped anew, is taken.
			p := spoilt(made(of, 0), func(p *api.Path) {
				rewrap(t, of, 0, me, secrets[k])(&p.Step[k].For[opens(of, 0, me, ownOf(of, me))])
			})
			isTaken(t, of, 0, me, ownOf(of, me), p)
		}
	}
}

// P11.3: another info than the one that it was wrapped with.
func TestTakeRefusesInfo(t *testing.T) {
	for _, of := range [][]api.Node{full(4), mixed()} {
		for _, me := range others(of, 0) {
			for _, info := range [][]byte{nil, {}, {0}, []byte("inf"), []byte("info "), []byte("Info"), filled(300, 1)} {
				got, e := path.Take(of, 0, me, ownOf(of, me), info, made(of, 0))
				isNothing(t, got, e, api.ErrKey, info)
			}
		}
	}
	for _, info := range [][]byte{nil, {}, {0}, filled(300, 1)} {
		m := makeOf(full(4), 0, newSeed, newSecret, info)
		got, e := path.Take(full(4), 0, 3, ownOf(full(4), 3), info, m.Path)
		isMade(t, got, e, takeOf(full(4), 0, 3, ownOf(full(4), 3), newSecret, m.Path), info)
	}
}

// P11.3: a step's public half that is changed, from the lowest step on the path of who takes it on; below that it is laid as it is told.
func TestTakeAsksForHalves(t *testing.T) {
	for _, of := range [][]api.Node{full(8), mixed(), whole(16)} {
		for _, i := range []int{0, 3} {
			p := made(of, i)
			for _, me := range others(of, i) {
				for k := range p.Step {
					for _, change := range []func(x []byte) []byte{
						func(x []byte) []byte { x[0] ^= 1; return x },
						func(x []byte) []byte { x[31] ^= 1; return x },
						func(x []byte) []byte { return bytes.Clone(p.Step[(k+1)%len(p.Step)].Pub) },
						func(x []byte) []byte { return make([]byte, 32) },
					} {
						other := spoilt(p, func(p *api.Path) { p.Step[k].Pub = change(p.Step[k].Pub) })
						switch same := path.Same(p, other); {
						case same:
						case k < lowest(of, i, me):
							isTaken(t, of, i, me, ownOf(of, me), other, "step", k)
						default:
							isNotTaken(t, of, i, me, ownOf(of, me), other, api.ErrKey, "step", k)
						}
					}
				}
			}
		}
	}
}

// P11.3: the path's own public half may be any of 32 bytes, and is laid as it is told.
func TestTakeOfAnyLeaf(t *testing.T) {
	for _, of := range [][]api.Node{full(8), mixed(), whole(2)} {
		for _, me := range others(of, 0) {
			for _, pub := range [][]byte{make([]byte, 32), filled(32, 77), of[0].Pub, of[2*me].Pub} {
				p := spoilt(made(of, 0), func(p *api.Path) { p.Pub = bytes.Clone(pub) })
				isTaken(t, of, 0, me, ownOf(of, me), p)
				got, _ := take(of, 0, me, ownOf(of, me), p)
				if !tree.Right(got.Tree) || !bytes.Equal(got.Tree[0].Pub, pub) {
					t.Errorf("leaf %d: %s", me, told(got.Tree))
				}
			}
		}
	}
}

// P11.3: which of two errors comes first, where both are there.
func TestTakeOrder(t *testing.T) {
	of := full(8)
	good := made(of, 0)
	short := spoilt(good, func(p *api.Path) { p.Step[2].For[1].B = nil })
	noHalf := spoilt(short, func(p *api.Path) { p.Step[2].For[1].Half = nil })
	noForm := spoilt(noHalf, func(p *api.Path) { p.Pub = nil })
	for k, x := range []struct {
		i, me int
		own   []api.Seed
		p     api.Path
		want  api.Errno
	}{
		{8, 5, nil, noForm, api.ErrNone},
		{-1, 5, ownOf(of, 5), noForm, api.ErrNone},
		{5, 5, nil, noForm, api.ErrArg},
		{0, 5, nil, noForm, api.ErrForm},
		{0, 5, ownOf(of, 5), noForm, api.ErrForm},
		{0, 5, nil, noHalf, api.ErrKey},
		{0, 5, nil, short, api.ErrKey},
		{0, 5, ownOf(of, 5), noHalf, api.ErrKey},
		{0, 5, ownOf(of, 5), short, api.ErrShort},
		{0, 5, ownOf(of, 5), spoilt(short, func(p *api.Path) { p.Step[2].Pub[0] ^= 1 }), api.ErrShort},
		{0, 5, ownOf(of, 5), spoilt(good, func(p *api.Path) {
			rewrap(t, of, 0, 5, filled(31, 1))(&p.Step[2].For[1])
			p.Step[2].Pub[0] ^= 1
		}), api.ErrForm},
		{0, 5, ownOf(of, 5), spoilt(good, func(p *api.Path) { p.Step[2].Pub = nil }), api.ErrForm},
		{0, 4, ownOf(of, 4), short, api.OK},
		{0, 4, ownOf(of, 4), noHalf, api.OK},
	} {
		got, e := take(of, x.i, x.me, x.own, x.p)
		if x.want != api.OK {
			isNothing(t, got, e, x.want, k)
		} else if e != api.OK {
			t.Errorf("%d: error %d", k, e)
		}
	}
}
