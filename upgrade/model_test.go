package upgrade_test

import (
	"bytes"
	"encoding/hex"
	"fmt"
	"slices"
	"strconv"
	"strings"
	"testing"

	"pyx/api"
	"pyx/group"
	"pyx/schema"
	"pyx/sha"
	"pyx/sig"
)

const (
	least     = -1 << 63  // the least number that there is
	greatest  = 1<<63 - 1 // the greatest one
	lastEpoch = 1<<48 - 2 // that a group may have
	lastPlace = 1<<32 - 2 // that a chain's next one may be
	mostBytes = 1 << 20   // that are decoded
)

// versions are all that there are; others are such that there isn't.
var (
	versions = []int{1, 2, 3, 4}
	others   = []int{least, least + 1, least + 4, -1 << 32, -4, -3, -2, -1, 0, 5, 6, 7, 8, 255, 257, 258, 1<<16 + 1, 1<<32 + 1, 1<<32 + 4, 1<<62 + 2, greatest - 1, greatest}
)

// told is anything as a text that tells all of it; no list, and one without elements, are the same.
func told(x any) string { return fmt.Sprintf("%x", x) }

// counted is n bytes that rise by one, from the first one on.
func counted(n, first int) []byte {
	b := make([]byte, n)
	for i := range b {
		b[i] = byte(first + i)
	}
	return b
}

// seedAt is 32 bytes that hang on a number alone.
func seedAt(n int) []byte { return sha.Sum([]byte("seed " + strconv.Itoa(n))) }

// publicOf is a seed's public half.
func publicOf(seed []byte) []byte {
	half, _ := sig.Public(seed)
	return half
}

// unhex is the bytes of a text, whatever room is between.
func unhex(t *testing.T, s string) []byte {
	t.Helper()
	b, err := hex.DecodeString(strings.ReplaceAll(s, " ", ""))
	if err != nil {
		t.Fatal(err)
	}
	return b
}

// bytesOf is a group's bytes in a version that can tell it.
func bytesOf(t *testing.T, v int, g api.Group) []byte {
	t.Helper()
	b, e := schema.Encode(v, g)
	if e != api.OK {
		t.Fatal(v, e)
	}
	return b
}

// stream is a second way to tell a group's bytes in another version: they are gone through part by part, without a group being made of them, and are copied, but where the versions part.
type stream struct {
	in, out []byte
	from    int // the version of what goes in
	to      int // the version of what comes out
	lost    bool
}

// part copies n bytes, and answers them.
func (s *stream) part(n int) []byte {
	x := s.in[:n]
	s.in, s.out = s.in[n:], append(s.out, x...)
	return x
}

// num copies a number.
func (s *stream) num(w int) int {
	n := 0
	for _, c := range s.part(w) {
		n = n<<8 + int(c)
	}
	return n
}

// row copies a row.
func (s *stream) row() {
	w := 1 << (s.in[0] >> 6)
	n := s.num(w)
	s.part(n &^ (3 << (8*w - 2)))
}

// epoch tells the epoch in as many bytes as it is to have, and loses what there is no room for.
func (s *stream) epoch() {
	at := len(s.out)
	if s.from < 4 {
		s.out = append(s.out, 0, 0)
		s.num(4)
	} else {
		s.num(6)
	}
	if s.to < 4 {
		s.lost = s.lost || s.out[at] > 0 || s.out[at+1] > 0
		s.out = slices.Delete(s.out, at, at+2)
	}
}

// since tells things that are told from a version on, behind how many there are; they are lost in those ahead of it.
func (s *stream) since(v, w int, one func()) {
	if s.from < v && s.to < v {
		return
	}
	at := len(s.out)
	if s.from < v {
		s.out = append(s.out, make([]byte, w)...)
		return
	}
	for range s.num(w) {
		one()
		s.lost = s.lost || s.to < v
	}
	if s.to < v {
		s.out = s.out[:at]
	}
}

// group tells the group.
func (s *stream) group() {
	s.row()
	s.epoch()
	for range s.num(2) {
		if s.num(1) > 0 {
			s.num(2)
			s.row()
			s.row()
			s.part(2 * s.num(2))
		}
	}
	s.num(2)
	for range s.num(2) {
		s.num(2)
		s.row()
	}
	for range 6 {
		s.row()
	}
	for range s.num(2) {
		s.num(4)
		s.row()
		s.since(2, 1, func() {
			s.num(4)
			s.row()
			s.row()
		})
	}
	s.since(3, 2, func() {
		s.num(2)
		s.row()
	})
}

// turned is the bytes of a group in another version, and whether that one can tell it.
func turned(v, w int, b []byte) ([]byte, bool) {
	s := stream{in: b, from: v, to: w}
	s.group()
	return s.out, !s.lost
}

// call is a call of which bytes come, told by the two versions that it goes from and to.
type call struct {
	what string
	do   func(v, w int, b []byte) ([]byte, api.Errno)
}

// isAnswered asks what a call answers: the bytes, or the error and nothing; and that it doesn't write into what is handed in.
func isAnswered(t *testing.T, what string, c call, v, w int, b, want []byte, e api.Errno) {
	t.Helper()
	was := bytes.Clone(b)
	out, got := c.do(v, w, b)
	if got != e || !bytes.Equal(out, want) || e != api.OK && out != nil {
		t.Errorf("%s: %s from %d to %d: %d, %d bytes, %x; want %d, %d bytes, %x", what, c.what, v, w, got, len(out), head(out), e, len(want), head(want))
	}
	if !bytes.Equal(b, was) {
		t.Errorf("%s: %s from %d to %d: written into", what, c.what, v, w)
	}
}

// head is what bytes begin with.
func head(b []byte) []byte { return b[:min(len(b), 300)] }

// isRefused asks that a call answers an error, and nothing else.
func isRefused(t *testing.T, what string, c call, v, w int, b []byte, e api.Errno) {
	t.Helper()
	isAnswered(t, what, c, v, w, b, nil, e)
}

// isAsModel asks that a call answers bytes of any kind, from a version to another one, as the second way has it, and tells whether they are a group's.
func isAsModel(t *testing.T, what string, c call, v, w int, b []byte) bool {
	t.Helper()
	if _, e := schema.Decode(v, b); e != api.OK {
		isRefused(t, what, c, v, w, b, e)
		return false
	}
	if want, can := turned(v, w, b); can {
		isAnswered(t, what, c, v, w, b, want, api.OK)
	} else {
		isRefused(t, what, c, v, w, b, api.ErrRep)
	}
	return true
}

// add is what is proposed for a member to come.
func add(name int) api.Prop {
	return api.Prop{Kind: api.PAdd, Name: name, Pub: publicOf(seedAt(1<<20 + name))}
}

// remove is what is proposed for a member to go.
func remove(name int) api.Prop { return api.Prop{Kind: api.PRemove, Name: name} }

// crowd is the members of a group, by their names, and how many secrets were drawn.
type crowd struct {
	t     *testing.T
	in    map[int]api.Group
	drawn int
}

// draw is another secret each time.
func (c *crowd) draw() []byte {
	c.drawn++
	return seedAt(c.drawn)
}

// newCrowd is a group of those names, where the first one takes all others in, one by one.
func newCrowd(t *testing.T, psk []api.Psk, names ...int) *crowd {
	t.Helper()
	c := &crowd{t: t, in: map[int]api.Group{}}
	g, e := group.Create([]byte("crowd"), names[0], c.draw(), c.draw())
	if e != api.OK {
		t.Fatal(e)
	}
	g.Psk = psk
	c.in[names[0]] = g
	for _, name := range names[1:] {
		c.step(names[0], add(name))
	}
	return c
}

// step is a commit by a member: all others process it, or go, and those that come join.
func (c *crowd) step(by int, l ...api.Prop) {
	c.t.Helper()
	next, com, w, e := group.Commit(c.in[by], l, c.draw(), c.draw())
	c.isOK(e)
	for name, g := range c.in {
		switch {
		case name == by:
			c.in[name] = next
		case slices.ContainsFunc(l, func(p api.Prop) bool { return p.Kind == api.PRemove && p.Name == name }):
			delete(c.in, name)
		default:
			c.in[name], e = group.Process(g, com)
			c.isOK(e)
		}
	}
	for _, p := range l {
		if p.Kind == api.PAdd {
			c.in[p.Name], e = group.Join(w[0], p.Name, seedAt(1<<20+p.Name), next.Psk)
			c.isOK(e)
			w = w[1:]
		}
	}
}

// pass has a member send so many messages, of which all others open the last one alone, so that they have spares of the rest.
func (c *crowd) pass(by, many int) {
	c.t.Helper()
	var m api.Msg
	var e api.Errno
	for range many {
		c.in[by], m, e = group.Send(c.in[by], []byte("pass"))
		c.isOK(e)
	}
	for name, g := range c.in {
		if name != by {
			c.in[name], _, e = group.Open(g, m)
			c.isOK(e)
		}
	}
}

// isOK asks that nothing was refused.
func (c *crowd) isOK(e api.Errno) {
	c.t.Helper()
	if e != api.OK {
		c.t.Fatal(e)
	}
}

// busy is a crowd of a tree with Parents, Blank nodes, Blank leaves, and a Parent that tells leaves among its Un.
func busy(t *testing.T, psk []api.Psk) *crowd {
	t.Helper()
	c := newCrowd(t, psk, 10, 11, 12, 13, 14, 15, 16, 17)
	c.step(12)
	c.step(10, remove(13), remove(17))
	c.step(16)
	c.step(14)
	c.step(10, add(20), add(21))
	c.step(10, remove(11))
	return c
}

// manyPsk is n shared secrets of so many bytes, whose names rise up to a last one.
func manyPsk(n, last, size int) []api.Psk {
	var out []api.Psk
	for k := range n {
		out = append(out, api.Psk{Id: last - n + 1 + k, Secret: counted(size, k)})
	}
	return out
}

// spared is a chain with n spares, up to its next place.
func spared(n, next int) api.Chain {
	c := api.Chain{Next: next, Secret: seedAt(next)}
	for k := range n {
		c.Spare = append(c.Spare, api.Lock{At: next - n + k, Key: counted(32, k), Nonce: counted(12, k)})
	}
	return c
}

// ofMany is a group of 64 leaves, that its first member holds.
func ofMany(t *testing.T) api.Group {
	t.Helper()
	g, e := group.Create([]byte("many"), 0, seedAt(1), seedAt(2))
	for from := 1; from < 64 && e == api.OK; from += 20 {
		var l []api.Prop
		for name := from; name < min(from+20, 64); name++ {
			l = append(l, add(name))
		}
		g, _, _, e = group.Commit(g, l, seedAt(from), seedAt(100+from))
	}
	if e != api.OK {
		t.Fatal(e)
	}
	return g
}

// fullest is a group that has as much as may be of all but of Un and of nodes that it knows.
func fullest(t *testing.T) api.Group {
	t.Helper()
	g := ofMany(t)
	g.Id, g.Epoch, g.Psk = counted(255, 0), lastEpoch, manyPsk(100, 65535, 64)
	for i := range g.Chain {
		g.Chain[i] = spared(32, lastPlace)
	}
	return g
}

// ofFour is a group of four leaves, one of them Blank, with Un, and with spares and shared secrets, if these are asked for.
func ofFour(spares, shared bool, epoch int) api.Group {
	g := api.Group{
		Id:    counted(70, 3),
		Epoch: epoch,
		Tree: []api.Node{
			{Kind: api.Leaf, Name: 258, Pub: publicOf(counted(32, 1)), Hash: counted(32, 200)},
			{Kind: api.Parent, Pub: publicOf(counted(32, 2)), Un: []int{1}},
			{Kind: api.Leaf, Name: 3, Pub: counted(32, 5)},
			{}, {},
			{Kind: api.Parent, Pub: counted(32, 6), Un: []int{3}, Hash: counted(32, 90)},
			{Kind: api.Leaf, Name: 65535, Pub: counted(32, 7), Hash: counted(32, 91)},
		},
		Own:   []api.Seed{{Node: 0, Seed: counted(32, 1)}, {Node: 1, Seed: counted(32, 2)}},
		Log:   counted(32, 40),
		Sec:   api.Epoch{Init: counted(32, 0), Send: counted(32, 10), Export: counted(32, 20), Confirm: counted(32, 30), Resume: counted(32, 40)},
		Chain: []api.Chain{{Secret: counted(32, 77)}, {Next: 5, Secret: counted(32, 78)}, {Next: lastPlace, Secret: counted(32, 79)}, {Next: 7, Secret: counted(32, 80)}},
	}
	if spares {
		g.Chain[1].Spare = []api.Lock{{At: 0, Key: counted(32, 1), Nonce: counted(12, 2)}, {At: 2, Key: counted(32, 3), Nonce: counted(12, 4)}}
		g.Chain[3].Spare = []api.Lock{{At: 6, Key: counted(32, 5), Nonce: counted(12, 6)}}
	}
	if shared {
		g.Psk = []api.Psk{{Id: 0, Secret: []byte{0}}, {Id: 4, Secret: []byte("four")}, {Id: 65535, Secret: counted(64, 9)}}
	}
	return g
}

// sample is a right group, and the least version that can tell it.
type sample struct {
	what  string
	least int
	g     api.Group
}

// fours are groups of four leaves, whose least versions are all that there are.
func fours() []sample {
	return []sample{
		{"of four, plain", 1, ofFour(false, false, 9)},
		{"of four, with spares", 2, ofFour(true, false, 1<<32-1)},
		{"of four, with shared secrets", 3, ofFour(false, true, 0)},
		{"of four, with spares and shared secrets", 3, ofFour(true, true, 258)},
		{"of four, late", 4, ofFour(false, false, 1<<32)},
		{"of four, with all, and late", 4, ofFour(true, true, lastEpoch)},
	}
}

// small are samples of a group of one.
func small(t *testing.T) []sample {
	t.Helper()
	one, e := group.Create([]byte{7, 8}, 258, seedAt(1), seedAt(2))
	if e != api.OK {
		t.Fatal(e)
	}
	l := []sample{{"of one", 1, one}}
	vary := func(what string, least int, do func(g *api.Group)) {
		g := one
		g.Chain = slices.Clone(one.Chain)
		do(&g)
		l = append(l, sample{what, least, g})
	}
	for _, n := range []int{0, 1, 63, 64, 255} {
		vary("an Id", 1, func(g *api.Group) { g.Id = counted(n, 200) })
	}
	for _, n := range []int{1, 1<<32 - 2, 1<<32 - 1, 1 << 32, 1<<32 + 1, 1<<33 - 1, 1 << 40, lastEpoch - 1, lastEpoch} {
		least := 1
		if n > 1<<32-1 {
			least = 4
		}
		vary("an epoch", least, func(g *api.Group) { g.Epoch = n })
		vary("an epoch, and spares", max(2, least), func(g *api.Group) { g.Epoch, g.Chain[0] = n, spared(3, 4) })
		vary("an epoch, and shared secrets", max(3, least), func(g *api.Group) { g.Epoch, g.Psk = n, manyPsk(2, 9, 5) })
	}
	for _, n := range []int{1, 2, 63, 99, 100} {
		vary("shared secrets", 3, func(g *api.Group) { g.Psk = manyPsk(n, 65535, 1+n%64) })
		vary("shared secrets, and spares", 3, func(g *api.Group) { g.Psk, g.Chain[0] = manyPsk(n, n-1, 64), spared(1, lastPlace) })
	}
	for _, n := range []int{1, 2, 31, 32} {
		vary("spares", 2, func(g *api.Group) { g.Chain[0] = spared(n, lastPlace) })
	}
	vary("no spares of a chain that went on", 1, func(g *api.Group) { g.Chain[0] = spared(0, 90) })
	return l
}

// samples are right groups of all kinds.
func samples(t *testing.T) []sample {
	t.Helper()
	l := append(small(t), fours()...)
	c := busy(t, nil)
	for _, g := range c.in {
		l = append(l, sample{"busy", 1, g})
	}
	c.pass(12, 40)
	c.pass(20, 3)
	for _, g := range c.in {
		l = append(l, sample{"busy, with spares", 2, g})
		g.Epoch += 1 << 32
		l = append(l, sample{"busy, with spares, and late", 4, g})
	}
	c = busy(t, manyPsk(5, 7, 33))
	c.step(14, api.Prop{Kind: api.PPsk, Name: 4}, api.Prop{Kind: api.PPsk, Name: 6})
	for _, g := range c.in {
		l = append(l, sample{"busy, with shared secrets", 3, g})
	}
	c.pass(14, 9)
	delete(c.in, 14)
	for _, g := range c.in {
		l = append(l, sample{"busy, with spares and shared secrets", 3, g})
	}
	return append(l, sample{"of 64", 1, ofMany(t)}, sample{"the fullest", 4, fullest(t)})
}

// draws tells numbers that hang on the first one alone.
type draws uint64

// below is the next number, from 0 to one less than n.
func (d *draws) below(n int) int {
	*d = *d*6364136223846793005 + 1442695040888963407
	return int(uint64(*d)>>33) % n
}
