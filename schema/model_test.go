package schema_test

import (
	"bytes"
	"encoding/binary"
	"fmt"
	"reflect"
	"slices"
	"strconv"
	"testing"

	"pyx/api"
	"pyx/group"
	"pyx/sha"
	"pyx/sig"
)

const (
	least     = -1 << 63  // the least number that there is
	greatest  = 1<<63 - 1 // the greatest one
	lastEpoch = 1<<48 - 2 // that a group may have
	lastPlace = 1<<32 - 2 // that a chain's next one may be
	mostBytes = 1 << 20   // that are decoded
)

// versions are all that there are; others are such that there isn't.
var (
	versions = []int{1, 2, 3, 4}
	others   = []int{least, least + 1, -1 << 32, -4, -3, -2, -1, 0, 5, 6, 7, 8, 255, 257, 258, 1<<16 + 1, 1<<32 + 1, 1<<32 + 4, 1<<62 + 2, greatest - 1, greatest}
)

// counted is n bytes that rise by one, from the first one on.
func counted(n, first int) []byte {
	b := make([]byte, n)
	for i := range b {
		b[i] = byte(first + i)
	}
	return b
}

// seedAt is 32 bytes that hang on a number alone.
func seedAt(n int) []byte { return sha.Sum([]byte("seed " + strconv.Itoa(n))) }

// publicOf is a seed's public half.
func publicOf(seed []byte) []byte {
	half, _ := sig.Public(seed)
	return half
}

// told is anything as a text that tells all of it; no list, and one without elements, are the same.
func told(x any) string { return fmt.Sprintf("%x", x) }

// cloned is anything that shares no memory with another one.
func cloned[T any](x T) T {
	out := reflect.New(reflect.TypeOf(x)).Elem()
	cloneInto(out, reflect.ValueOf(x), 0)
	return out.Interface().(T)
}

// lent is something that shares no memory with another one, with more behind each of its lists.
func lent[T any](x T) T {
	out := reflect.New(reflect.TypeOf(x)).Elem()
	cloneInto(out, reflect.ValueOf(x), 40)
	return out.Interface().(T)
}

func cloneInto(out, x reflect.Value, more int) {
	switch x.Kind() {
	case reflect.Slice:
		if x.IsNil() && more == 0 {
			return
		}
		n := x.Len()
		out.Set(reflect.MakeSlice(x.Type(), n+more, n+more))
		for k := range n {
			cloneInto(out.Index(k), x.Index(k), more)
		}
		out.Set(out.Slice(0, n))
	case reflect.Struct:
		for k := range x.NumField() {
			cloneInto(out.Field(k), x.Field(k), more)
		}
	default:
		out.Set(x)
	}
}

// writer is a second way to tell a group's bytes, that may be asked to tell some of them wrongly.
type writer struct {
	bytes.Buffer
	lens, counts int         // how many lengths, and how many counts, were told so far
	long         map[int]int // how many bytes a length, by its place among them, has at least
	moreBytes    map[int]int // how many more a length tells than there are
	more         map[int]int // how many more a count tells than there are
}

// num tells a number of w bytes.
func (w *writer) num(n, wide int) {
	w.Write(binary.BigEndian.AppendUint64(nil, uint64(n))[8-wide:])
}

// count tells how many there are.
func (w *writer) count(n, wide int) {
	w.num(n+w.more[w.counts], wide)
	w.counts++
}

// row tells a row.
func (w *writer) row(x []byte) {
	n := len(x) + w.moreBytes[w.lens]
	wide := 1
	if n > 63 {
		wide = 2
	}
	if n > 16383 {
		wide = 4
	}
	wide = max(wide, w.long[w.lens])
	w.lens++
	w.num(n+map[int]int{1: 0, 2: 1 << 14, 4: 1 << 31}[wide], wide)
	w.Write(x)
}

// group tells a group, right or not, in a version, though it may not be able to.
func (w *writer) group(v int, g api.Group) {
	w.row(g.Id)
	w.num(g.Epoch, map[bool]int{true: 6, false: 4}[v == 4])
	w.count(len(g.Tree), 2)
	for _, n := range g.Tree {
		w.num(n.Kind, 1)
		if n.Kind == 0 {
			continue
		}
		w.num(n.Name, 2)
		w.row(n.Pub)
		w.row(n.Hash)
		w.count(len(n.Un), 2)
		for _, i := range n.Un {
			w.num(i, 2)
		}
	}
	w.num(g.Me, 2)
	w.count(len(g.Own), 2)
	for _, s := range g.Own {
		w.num(s.Node, 2)
		w.row(s.Seed)
	}
	for _, x := range [][]byte{g.Log, g.Sec.Init, g.Sec.Send, g.Sec.Export, g.Sec.Confirm, g.Sec.Resume} {
		w.row(x)
	}
	w.count(len(g.Chain), 2)
	for _, c := range g.Chain {
		w.num(c.Next, 4)
		w.row(c.Secret)
		if v == 1 {
			continue
		}
		w.count(len(c.Spare), 1)
		for _, l := range c.Spare {
			w.num(l.At, 4)
			w.row(l.Key)
			w.row(l.Nonce)
		}
	}
	if v < 3 {
		return
	}
	w.count(len(g.Psk), 2)
	for _, p := range g.Psk {
		w.num(p.Id, 2)
		w.row(p.Secret)
	}
}

// bytesOf is a group's bytes in a version.
func bytesOf(v int, g api.Group) []byte {
	var w writer
	w.group(v, g)
	return w.Bytes()
}

// taker is a second way to read a group's bytes: it panics, where they end too soon.
type taker []byte

// num takes a number.
func (t *taker) num(w int) int {
	n := 0
	for _, c := range (*t)[:w] {
		n = n<<8 + int(c)
	}
	*t = (*t)[w:]
	return n
}

// row takes a row, however its length is told.
func (t *taker) row() []byte {
	w := 1 << ((*t)[0] >> 6)
	n := t.num(w) &^ (3 << (8*w - 2))
	x := (*t)[:n:n]
	*t = (*t)[n:]
	return x
}

// groupIn is the group whose bytes these are in a version, and whether there is one that is right.
func groupIn(v int, b []byte) (g api.Group, is bool) {
	defer func() {
		if recover() != nil {
			g, is = api.Group{}, false
		}
	}()
	t := taker(bytes.Clone(b))
	g.Id = t.row()
	g.Epoch = t.num(map[bool]int{true: 6, false: 4}[v == 4])
	for range t.num(2) {
		n := api.Node{Kind: t.num(1)}
		if n.Kind != 0 {
			n.Name = t.num(2)
			n.Pub = t.row()
			n.Hash = t.row()
			for range t.num(2) {
				n.Un = append(n.Un, t.num(2))
			}
		}
		g.Tree = append(g.Tree, n)
	}
	g.Me = t.num(2)
	for range t.num(2) {
		node := t.num(2)
		g.Own = append(g.Own, api.Seed{Node: node, Seed: t.row()})
	}
	for _, x := range []*[]byte{&g.Log, &g.Sec.Init, &g.Sec.Send, &g.Sec.Export, &g.Sec.Confirm, &g.Sec.Resume} {
		*x = t.row()
	}
	for range t.num(2) {
		c := api.Chain{Next: t.num(4)}
		c.Secret = t.row()
		if v > 1 {
			for range t.num(1) {
				l := api.Lock{At: t.num(4)}
				l.Key = t.row()
				l.Nonce = t.row()
				c.Spare = append(c.Spare, l)
			}
		}
		g.Chain = append(g.Chain, c)
	}
	if v > 2 {
		for range t.num(2) {
			id := t.num(2)
			g.Psk = append(g.Psk, api.Psk{Id: id, Secret: t.row()})
		}
	}
	// What isn't told so by the group, is told in another way than the one that there is.
	if len(t) > 0 || !group.Right(g) || !bytes.Equal(bytesOf(v, g), b) {
		return api.Group{}, false
	}
	return g, true
}

// leastOf is the least version that can tell a group.
func leastOf(g api.Group) int {
	can := []bool{false, true, true, g.Epoch < 1<<32, true}
	for _, c := range g.Chain {
		can[1] = can[1] && len(c.Spare) == 0
	}
	can[1] = can[1] && len(g.Psk) == 0 && g.Epoch < 1<<32
	can[2] = len(g.Psk) == 0 && g.Epoch < 1<<32
	return slices.Index(can, true)
}

// crowd is the members of a group, by their names, and how many secrets were drawn.
type crowd struct {
	t     *testing.T
	in    map[int]api.Group
	drawn int
}

// draw is another secret each time.
func (c *crowd) draw() []byte {
	c.drawn++
	return seedAt(c.drawn)
}

// newCrowd is a group of those names, where the first one takes all others in, one by one.
func newCrowd(t *testing.T, id []byte, psk []api.Psk, names ...int) *crowd {
	t.Helper()
	c := &crowd{t: t, in: map[int]api.Group{}}
	g, e := group.Create(id, names[0], c.draw(), c.draw())
	if e != api.OK {
		t.Fatal(e)
	}
	g.Psk = psk
	c.in[names[0]] = g
	for _, name := range names[1:] {
		c.step(names[0], add(name))
	}
	return c
}

// add is what is proposed for a member to come.
func add(name int) api.Prop {
	return api.Prop{Kind: api.PAdd, Name: name, Pub: publicOf(seedAt(1<<20 + name))}
}

// remove is what is proposed for a member to go.
func remove(name int) api.Prop { return api.Prop{Kind: api.PRemove, Name: name} }

// take is what is proposed for a shared secret to be taken in.
func take(name int) api.Prop { return api.Prop{Kind: api.PPsk, Name: name} }

// step is a commit by a member: all others process it, or go, and those that come join.
func (c *crowd) step(by int, l ...api.Prop) {
	c.t.Helper()
	next, com, w, e := group.Commit(c.in[by], l, c.draw(), c.draw())
	if e != api.OK {
		c.t.Fatalf("commit by %d: %d", by, e)
	}
	psk := c.in[by].Psk
	c.in[by] = next
	for name, g := range c.in {
		if name == by {
			continue
		}
		if slices.ContainsFunc(l, func(p api.Prop) bool { return p.Kind == api.PRemove && p.Name == name }) {
			delete(c.in, name)
		} else if c.in[name], e = group.Process(g, com); e != api.OK {
			c.t.Fatalf("%d processes: %d", name, e)
		}
	}
	for _, p := range l {
		if p.Kind == api.PAdd {
			if c.in[p.Name], e = group.Join(w[0], p.Name, seedAt(1<<20+p.Name), psk); e != api.OK {
				c.t.Fatalf("%d joins: %d", p.Name, e)
			}
			w = w[1:]
		}
	}
}

// pass has a member send so many messages, of which all others open the last one alone, so that they have spares of the rest.
func (c *crowd) pass(by, many int) {
	c.t.Helper()
	var m api.Msg
	var e api.Errno
	for range many {
		if c.in[by], m, e = group.Send(c.in[by], []byte("pass")); e != api.OK {
			c.t.Fatal(e)
		}
	}
	for name, g := range c.in {
		if name == by {
			continue
		}
		if c.in[name], _, e = group.Open(g, m); e != api.OK {
			c.t.Fatalf("%d opens: %d", name, e)
		}
	}
}

// busy is a crowd of a tree with Parents, Blank nodes, a Blank leaf, and a Parent that tells a leaf among its Un.
func busy(t *testing.T, psk []api.Psk) *crowd {
	t.Helper()
	c := newCrowd(t, []byte("busy"), psk, 10, 11, 12, 13, 14, 15, 16, 17)
	c.step(12)
	c.step(10, remove(13), remove(17))
	c.step(16)
	c.step(14)
	c.step(10, add(20), add(21))
	c.step(10, remove(11))
	return c
}

// manyPsk is n shared secrets of so many bytes, whose names rise up to a last one.
func manyPsk(n, last, size int) []api.Psk {
	var out []api.Psk
	for k := range n {
		out = append(out, api.Psk{Id: last - n + 1 + k, Secret: counted(size, k)})
	}
	return out
}

// manySpares is n spares of a chain, the last one at a place.
func manySpares(n, last int) []api.Lock {
	var out []api.Lock
	for k := range n {
		out = append(out, api.Lock{At: last - n + 1 + k, Key: counted(32, k), Nonce: counted(12, k)})
	}
	return out
}

// ofMany is a group of 64 leaves, that its first member holds.
func ofMany(t *testing.T) api.Group {
	t.Helper()
	c := newCrowd(t, []byte("many"), nil, 0)
	for from := 1; from < 64; from += 20 {
		var l []api.Prop
		for name := from; name < min(from+20, 64); name++ {
			l = append(l, add(name))
		}
		next, _, _, e := group.Commit(c.in[0], l, c.draw(), c.draw())
		if e != api.OK {
			t.Fatal(e)
		}
		c.in[0] = next
	}
	return c.in[0]
}

// fullest is a right group that has as much as may be of all.
func fullest(t *testing.T) api.Group {
	t.Helper()
	g := ofMany(t)
	for x, n := range g.Tree {
		if x%2 == 0 {
			g.Tree[x].Hash = counted(32, x)
		} else if n.Kind == api.Blank {
			g.Tree[x] = api.Node{Kind: api.Parent, Pub: counted(32, x), Hash: counted(32, x)}
			below := (x + 1) & -(x + 1) // how many leaves are below it
			for i := (x + 1 - below) / 2; i < (x+1+below)/2; i++ {
				g.Tree[x].Un = append(g.Tree[x].Un, i)
			}
		}
	}
	g.Id, g.Epoch = counted(255, 0), lastEpoch
	for i := range g.Chain {
		g.Chain[i].Next = lastPlace
		g.Chain[i].Spare = manySpares(32, lastPlace-1)
	}
	g.Psk = manyPsk(100, 65535, 64)
	return g
}

// sample is a right group, and the least version that can tell it.
type sample struct {
	what  string
	least int
	g     api.Group
}

// changed is a sample of a group, changed by what is done to it.
func changed(what string, least int, g api.Group, do func(g *api.Group)) sample {
	other := cloned(g)
	do(&other)
	return sample{what, least, other}
}

// small are samples of groups of one or two.
func small(t *testing.T) []sample {
	t.Helper()
	one, _ := group.Create([]byte{7, 8}, 258, seedAt(1), seedAt(2))
	two := newCrowd(t, []byte("two"), nil, 1, 2)
	l := []sample{{"of one", 1, one}, {"of two, the first one", 1, two.in[1]}, {"of two, the second one", 1, two.in[2]}}
	for _, n := range []int{0, 1, 63, 64, 255} {
		l = append(l, changed("an Id", 1, one, func(g *api.Group) { g.Id = counted(n, 200) }))
	}
	for n, least := range map[int]int{1: 1, 1 << 24: 1, 1<<32 - 1: 1, 1 << 32: 4, 1<<32 + 1: 4, 1 << 40: 4, lastEpoch - 1: 4, lastEpoch: 4} {
		l = append(l, changed("an epoch", least, one, func(g *api.Group) { g.Epoch = n }))
	}
	for n, least := range map[int]int{0: 1, 1: 3, 2: 3, 99: 3, 100: 3} {
		l = append(l, changed("shared secrets", least, one, func(g *api.Group) { g.Psk = manyPsk(n, 65535, 1+n%64) }))
	}
	for n, least := range map[int]int{0: 1, 1: 2, 2: 2, 31: 2, 32: 2} {
		l = append(l,
			changed("spares", least, two.in[1], func(g *api.Group) { g.Chain[0].Next, g.Chain[0].Spare = n+3, manySpares(n, n+1) }),
			changed("spares of the last chain", least, two.in[1], func(g *api.Group) { g.Chain[1].Next, g.Chain[1].Spare = lastPlace, manySpares(n, lastPlace-1) }))
	}
	return append(l,
		changed("no Hash", 1, two.in[2], func(g *api.Group) { g.Tree[0].Hash = nil }),
		changed("the last name", 1, two.in[2], func(g *api.Group) { g.Tree[0].Name = 65535 }),
		changed("a Blank root", 1, two.in[2], func(g *api.Group) { g.Tree[1], g.Own = api.Node{}, g.Own[1:] }),
		changed("spares and shared secrets", 3, two.in[2], func(g *api.Group) { g.Chain[0].Next, g.Chain[0].Spare, g.Psk = 9, manySpares(3, 8), manyPsk(2, 4, 64) }),
		changed("spares, and late", 4, two.in[2], func(g *api.Group) { g.Chain[1].Next, g.Chain[1].Spare, g.Epoch = 9, manySpares(3, 8), 1<<32 }),
		changed("shared secrets, and late", 4, two.in[2], func(g *api.Group) { g.Psk, g.Epoch = manyPsk(2, 1, 64), 1<<47 }),
		changed("all", 4, two.in[2], func(g *api.Group) {
			g.Chain[1].Next, g.Chain[1].Spare, g.Psk, g.Epoch = 9, manySpares(3, 8), manyPsk(2, 4, 64), 1<<32
		}))
}

// samples are right groups of all kinds.
func samples(t *testing.T) []sample {
	t.Helper()
	l := small(t)
	for _, g := range busy(t, nil).in {
		l = append(l, sample{"busy", 1, g})
	}
	c := busy(t, manyPsk(5, 7, 33))
	c.step(14, take(4), take(6))
	c.pass(12, 1)
	for name, g := range c.in {
		l = append(l, sample{"busy, with shared secrets", 3, g})
		c.in[name] = without(g)
	}
	c.pass(12, 40)
	c.pass(20, 3)
	for name, g := range c.in {
		l = append(l, sample{"busy, with spares", 2, g})
		g.Epoch += 1 << 32
		c.in[name] = g
	}
	for _, g := range c.in {
		l = append(l, sample{"busy, with spares, and late", 4, g})
	}
	return append(l, sample{"of 64", 1, ofMany(t)}, sample{"the fullest", 4, fullest(t)})
}

// without is a group without its shared secrets.
func without(g api.Group) api.Group {
	g.Psk = nil
	return g
}

// draws tells numbers that hang on the first one alone.
type draws uint64

// below is the next number, from 0 to one less than n.
func (d *draws) below(n int) int {
	*d = *d*6364136223846793005 + 1442695040888963407
	return int(uint64(*d)>>33) % n
}

// row is n drawn bytes.
func (d *draws) row(n int) []byte {
	b := make([]byte, n)
	for i := range b {
		b[i] = byte(d.below(256))
	}
	return b
}
