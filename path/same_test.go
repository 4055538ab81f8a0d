package path_test

import (
	"slices"
	"testing"

	"pyx/api"
	"pyx/path"
)

// isSame asks whether two paths are the same, whichever is told first.
func isSame(t *testing.T, a, b api.Path, want bool, what ...any) {
	t.Helper()
	if path.Same(a, b) != want || path.Same(b, a) != want {
		t.Errorf("%v: same: %v, and the other way %v; want %v:\n%s%s", what, path.Same(a, b), path.Same(b, a), want, toldPath(a), toldPath(b))
	}
}

// laidPath is a path of three steps, wrapped for one, for three, and for two.
func laidPath() api.Path {
	p := api.Path{Pub: filled(32, 1)}
	for k, many := range []int{1, 3, 2} {
		step := api.Step{Pub: filled(32, 10+k)}
		for m := range many {
			step.For = append(step.For, api.Sealed{Half: filled(32, 20+10*k+m), B: filled(64, 50+10*k+m)})
		}
		p.Step = append(p.Step, step)
	}
	return p
}

// P11.1: a path is the same as itself, and as one that shares nothing with it.
func TestSame(t *testing.T) {
	for _, p := range []api.Path{{}, {Pub: filled(32, 1)}, laidPath(), {Step: []api.Step{{}}}, {Step: []api.Step{{For: []api.Sealed{{}}}}}} {
		isSame(t, p, p, true)
		isSame(t, p, clonedPath(p), true)
	}
}

// P11.1: rows and lists without elements are the same, whether they are nil or not.
func TestSameWithoutElements(t *testing.T) {
	isSame(t, api.Path{}, api.Path{Pub: []byte{}, Step: []api.Step{}}, true)
	isSame(t, api.Path{Step: []api.Step{{}}}, api.Path{Step: []api.Step{{Pub: []byte{}, For: []api.Sealed{}}}}, true)
	isSame(t, api.Path{Step: []api.Step{{For: []api.Sealed{{}}}}}, api.Path{Step: []api.Step{{For: []api.Sealed{{Half: []byte{}, B: []byte{}}}}}}, true)
	isSame(t, api.Path{}, api.Path{Step: []api.Step{{}}}, false)
	isSame(t, api.Path{Step: []api.Step{{}}}, api.Path{Step: []api.Step{{For: []api.Sealed{{}}}}}, false)
	isSame(t, api.Path{Step: []api.Step{{}}}, api.Path{Step: []api.Step{{}, {}}}, false)
}

// rows are all rows of a path, to be written into.
func rows(p *api.Path) []*[]byte {
	out := []*[]byte{&p.Pub}
	for k := range p.Step {
		out = append(out, &p.Step[k].Pub)
		for m := range p.Step[k].For {
			out = append(out, &p.Step[k].For[m].Half, &p.Step[k].For[m].B)
		}
	}
	return out
}

// P11.1: two paths that differ in one row alone: in each byte of it, or in how many it has.
func TestSameOfRows(t *testing.T) {
	of := laidPath()
	for k, row := range rows(&of) {
		for at := range *row {
			other := clonedPath(of)
			(*rows(&other)[k])[at] ^= 1
			isSame(t, of, other, false, "row", k, "byte", at)
		}
		for _, change := range []func(x []byte) []byte{
			func(x []byte) []byte { return x[:len(x)-1] },
			func(x []byte) []byte { return x[1:] },
			func(x []byte) []byte { return append(x, 0) },
			func(x []byte) []byte { return nil },
		} {
			other := clonedPath(of)
			row := rows(&other)[k]
			*row = change(*row)
			isSame(t, of, other, false, "row", k, "of", len(*row))
		}
	}
}

// P11.1: two paths whose rows are the same one behind the other, but are parted at other places.
func TestSameOfPartedElsewhere(t *testing.T) {
	of := laidPath()
	all := rows(&of)
	for k := range all[1:] {
		other := clonedPath(of)
		first, second := rows(&other)[k], rows(&other)[k+1]
		*first, *second = append(*first, (*second)[0]), (*second)[1:]
		isSame(t, of, other, false, "rows", k)
	}
}

// P11.1: two paths of which one has a step, or something wrapped, more, in another order, or elsewhere.
func TestSameOfLists(t *testing.T) {
	of := laidPath()
	for k := range of.Step {
		other := clonedPath(of)
		other.Step = slices.Delete(other.Step, k, k+1)
		isSame(t, of, other, false, "without step", k)
		other = clonedPath(of)
		other.Step = slices.Insert(other.Step, k, other.Step[k])
		isSame(t, of, other, false, "step twice", k)
		for m := range of.Step[k].For {
			other = clonedPath(of)
			other.Step[k].For = slices.Delete(other.Step[k].For, m, m+1)
			isSame(t, of, other, false, "without what was wrapped", k, m)
			other = clonedPath(of)
			other.Step[k].For = slices.Insert(other.Step[k].For, m, other.Step[k].For[m])
			isSame(t, of, other, false, "wrapped twice", k, m)
		}
		other = clonedPath(of)
		other.Step[k].For = append(other.Step[k].For, api.Sealed{})
		isSame(t, of, other, false, "one more", k)
	}
	other := clonedPath(of)
	other.Step = append(other.Step, api.Step{})
	isSame(t, of, other, false, "one more")
	other = clonedPath(of)
	slices.Reverse(other.Step)
	isSame(t, of, other, false, "steps in another order")
	other = clonedPath(of)
	slices.Reverse(other.Step[1].For)
	isSame(t, of, other, false, "what was wrapped in another order")
	other = clonedPath(of)
	other.Step[0].For, other.Step[1].For = append(other.Step[0].For, other.Step[1].For[0]), other.Step[1].For[1:]
	isSame(t, of, other, false, "wrapped for another step")
	other = clonedPath(of)
	other.Step[1].For[0].Half, other.Step[1].For[0].B = other.Step[1].For[0].B, other.Step[1].For[0].Half
	isSame(t, of, other, false, "a half for bytes")
}
