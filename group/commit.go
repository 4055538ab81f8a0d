package group

import (
	"slices"

	"pyx/api"
	"pyx/byt"
	"pyx/tree"
)

const (
	mostRow     = 1000 // bytes of a row of a commit that is taken
	mostSteps   = 10   // steps of its path
	mostWrapped = 64   // times that a step of it was wrapped
)

// content is a commit's content.
func content(c api.Commit) []byte {
	b := slices.Concat(row(c.Id), number(c.Epoch, epochBytes), number(c.From, 2), number(len(c.Prop), 2))
	for _, p := range c.Prop {
		b = append(b, slices.Concat(number(p.Kind, 1), number(p.Name, 2), row(p.Pub))...)
	}
	b = append(b, slices.Concat(row(c.Path.Pub), number(len(c.Path.Step), 2))...)
	for _, s := range c.Path.Step {
		b = append(b, slices.Concat(row(s.Pub), number(len(s.For), 2))...)
		for _, box := range s.For {
			b = append(b, slices.Concat(row(box.Half), row(box.B))...)
		}
	}
	return b
}

// row is a row's bytes; the error of one that is too long is handed up.
func row(x []byte) []byte { return got(byt.Row(x)) }

// number is a number's bytes; the error of one that they can't tell is handed up.
func number(n, w int) []byte { return got(byt.Num(n, w)) }

// fits: has a commit no more parts, no longer ones and no others than one that is taken may have?
func fits(c api.Commit) bool {
	return areProps(c.Prop) && len(c.Path.Step) <= mostSteps &&
		areAll(c.Path.Step, func(s api.Step) bool { return len(s.For) <= mostWrapped }) &&
		areAll(rowsOf(c), func(x []byte) bool { return len(x) <= mostRow })
}

// rowsOf is all rows of a commit.
func rowsOf(c api.Commit) [][]byte {
	l := [][]byte{c.Id, c.Path.Pub, c.Proof, c.Sign}
	for _, p := range c.Prop {
		l = append(l, p.Pub)
	}
	for _, s := range c.Path.Step {
		l = append(l, s.Pub)
		for _, box := range s.For {
			l = append(l, box.Half, box.B)
		}
	}
	return l
}

// areProps: may these be proposed, whatever the group is?
func areProps(l []api.Prop) bool { return len(l) <= api.Props && areAll(l, isProp) }

// isProp: may this be proposed, whatever the group is?
func isProp(p api.Prop) bool {
	return (p.Kind == api.PAdd || p.Kind == api.PRemove || p.Kind == api.PPsk) && 0 <= p.Name && p.Name < api.Names
}

// ofKind is those of a kind, in order.
func ofKind(l []api.Prop, kind int) []api.Prop {
	var out []api.Prop
	for _, p := range l {
		if p.Kind == kind {
			out = append(out, p)
		}
	}
	return out
}

// applied is the tree behind what is proposed by a leaf, and the shared secrets that are taken in.
func applied(g api.Group, l []api.Prop, from int) ([]api.Node, [][]byte) {
	need(areProps(l), api.ErrArg)
	t := g.Tree
	for _, p := range ofKind(l, api.PRemove) {
		t = without(t, p, from)
	}
	for _, p := range ofKind(l, api.PAdd) {
		t = with(t, p)
	}
	return t, secretsOf(l, g.Psk)
}

// without is a tree without the leaf of a name, that isn't the one that proposes it.
func without(t []api.Node, p api.Prop, from int) []api.Node {
	i, is := tree.Find(t, p.Name)
	need(is, api.ErrNone)
	need(i != from, api.ErrState)
	return got(tree.Remove(t, i))
}

// with is a tree with a leaf more.
func with(t []api.Node, p api.Prop) []api.Node {
	t, _, e := tree.Add(t, p.Name, p.Pub)
	need(e == api.OK, e)
	need(leaves(t) <= mostLeaves, api.ErrBig)
	return t
}

// secretsOf is the shared secrets that are taken in, out of those that one has.
func secretsOf(l []api.Prop, have []api.Psk) [][]byte {
	var out [][]byte
	for _, p := range ofKind(l, api.PPsk) {
		k := slices.IndexFunc(have, func(psk api.Psk) bool { return psk.Id == p.Name })
		need(k >= 0, api.ErrNone)
		out = append(out, have[k].Secret)
	}
	return out
}
