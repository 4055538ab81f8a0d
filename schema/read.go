package schema

import (
	"pyx/api"
	"pyx/byt"
)

// reader reads bytes of a version, one thing behind the other. Once something isn't there it has failed, and whatever is read behind that is 0, or none.
type reader struct {
	v      int
	b      []byte
	at     int
	failed bool
}

// group reads a group, which needn't be right.
func (r *reader) group() api.Group {
	var g api.Group
	g.Id = r.row()
	g.Epoch = r.number(widthOf(r.v))
	g.Tree = list(r, manyBytes, func() api.Node { return r.node() })
	g.Me = r.number(leafBytes)
	g.Own = list(r, manyBytes, func() api.Seed {
		return api.Seed{Node: r.number(nodeBytes), Seed: r.row()}
	})
	g.Log = r.row()
	g.Sec = api.Epoch{Init: r.row(), Send: r.row(), Export: r.row(), Confirm: r.row(), Resume: r.row()}
	g.Chain = list(r, manyBytes, func() api.Chain { return r.chain() })
	if r.v >= shared {
		g.Psk = list(r, manyBytes, func() api.Psk {
			return api.Psk{Id: r.number(nameBytes), Secret: r.row()}
		})
	}
	return g
}

// node reads a node; of a Blank one nothing more is told than that.
func (r *reader) node() api.Node {
	n := api.Node{Kind: r.number(kindBytes)}
	if n.Kind == api.Blank {
		return n
	}
	n.Name = r.number(nameBytes)
	n.Pub = r.row()
	n.Hash = r.row()
	n.Un = list(r, manyBytes, func() int { return r.number(leafBytes) })
	return n
}

// chain reads a chain.
func (r *reader) chain() api.Chain {
	c := api.Chain{Next: r.number(placeBytes), Secret: r.row()}
	if r.v >= spares {
		c.Spare = list(r, spareBytes, func() api.Lock {
			return api.Lock{At: r.number(placeBytes), Key: r.row(), Nonce: r.row()}
		})
	}
	return c
}

// list reads how many there are, as a number of w bytes, and each one as it is told how.
func list[T any](r *reader, w int, one func() T) []T {
	var l []T
	for range r.number(w) {
		if r.failed {
			return nil
		}
		l = append(l, one())
	}
	return l
}

// number reads a number of w bytes.
func (r *reader) number(w int) int {
	return read(r, func() (int, int, api.Errno) { return byt.TakeNum(r.b, r.at, w) })
}

// row reads a row.
func (r *reader) row() []byte {
	return read(r, func() ([]byte, int, api.Errno) { return byt.TakeRow(r.b, r.at, api.MaxLen) })
}

// read is what is taken where the reader is, which goes on behind that.
func read[T any](r *reader, take func() (T, int, api.Errno)) T {
	var none T
	if r.failed {
		return none
	}
	x, next, e := take()
	if e != api.OK {
		r.failed = true
		return none
	}
	r.at = next
	return x
}
