package schema

import (
	"pyx/api"
	"pyx/byt"
)

// teller is what was told so far, in a version; it has failed, once it was to tell what has no bytes.
type teller struct {
	v      int
	b      []byte
	failed bool
}

// group tells a group.
func (t *teller) group(g api.Group) {
	t.rows(g.Id)
	t.number(g.Epoch, widthOf(t.v))
	tellAll(t, manyBytes, g.Tree, t.node)
	t.number(g.Me, leafBytes)
	tellAll(t, manyBytes, g.Own, t.seed)
	t.rows(g.Log, g.Sec.Init, g.Sec.Send, g.Sec.Export, g.Sec.Confirm, g.Sec.Resume)
	tellAll(t, manyBytes, g.Chain, t.chain)
	if t.v >= shared {
		tellAll(t, manyBytes, g.Psk, t.psk)
	}
}

// node tells a node; of a Blank one there is nothing more to tell than that.
func (t *teller) node(n api.Node) {
	t.number(n.Kind, kindBytes)
	if n.Kind == api.Blank {
		return
	}
	t.number(n.Name, nameBytes)
	t.rows(n.Pub, n.Hash)
	tellAll(t, manyBytes, n.Un, func(i int) { t.number(i, leafBytes) })
}

// seed tells a seed.
func (t *teller) seed(s api.Seed) {
	t.number(s.Node, nodeBytes)
	t.rows(s.Seed)
}

// chain tells a chain.
func (t *teller) chain(c api.Chain) {
	t.number(c.Next, placeBytes)
	t.rows(c.Secret)
	if t.v >= spares {
		tellAll(t, spareBytes, c.Spare, t.lock)
	}
}

// lock tells a spare.
func (t *teller) lock(l api.Lock) {
	t.number(l.At, placeBytes)
	t.rows(l.Key, l.Nonce)
}

// psk tells a shared secret.
func (t *teller) psk(p api.Psk) {
	t.number(p.Id, nameBytes)
	t.rows(p.Secret)
}

// tellAll tells how many there are, as a number of w bytes, and each one.
func tellAll[T any](t *teller, w int, l []T, one func(T)) {
	t.number(len(l), w)
	for _, x := range l {
		one(x)
	}
}

// number tells a number of w bytes.
func (t *teller) number(n, w int) { t.add(byt.Num(n, w)) }

// rows tells rows.
func (t *teller) rows(l ...[]byte) {
	for _, x := range l {
		t.add(byt.Row(x))
	}
}

// add tells bytes, if they are some.
func (t *teller) add(b []byte, e api.Errno) {
	t.b = append(t.b, b...)
	t.failed = t.failed || e != api.OK
}
