package path_test

import (
	"bytes"
	"cmp"
	"crypto/aes"
	"crypto/cipher"
	"crypto/hkdf"
	"crypto/hmac"
	"crypto/sha256"
	"encoding/binary"
	"fmt"
	"slices"
	"strings"
	"testing"

	"pyx/api"
)

const (
	least    = -1 << 63  // the least number that there is
	greatest = 1<<63 - 1 // the greatest one
)

// num2 is a number of 2 bytes.
func num2(n int) []byte { return binary.BigEndian.AppendUint16(nil, uint16(n)) }

// num4 is a number of 4 bytes.
func num4(n int) []byte { return binary.BigEndian.AppendUint32(nil, uint32(n)) }

// rowOf is a row, of at most 16383 bytes.
func rowOf(x []byte) []byte {
	if len(x) < 64 {
		return append([]byte{byte(len(x))}, x...)
	}
	return append(num2(len(x)+16384), x...)
}

// sumOf is the library's digest of parts one behind the other.
func sumOf(parts ...[]byte) []byte {
	sum := sha256.Sum256(slices.Concat(parts...))
	return sum[:]
}

// tagOf is the library's tag of rows one behind the other.
func tagOf(key []byte, rows ...[]byte) []byte {
	h := hmac.New(sha256.New, key)
	for _, row := range rows {
		h.Write(row)
	}
	return h.Sum(nil)
}

// labelOf is bytes of a secret, as the library has them.
func labelOf(secret []byte, label string, context []byte, n int) []byte {
	info := slices.Concat(num2(n), rowOf([]byte("MLS 1.0 "+label)), rowOf(context))
	out, err := hkdf.Expand(sha256.New, secret, string(info), n)
	if err != nil {
		panic(err)
	}
	return out
}

// deriveOf is a secret of another one.
func deriveOf(secret []byte, label string) []byte { return labelOf(secret, label, nil, 32) }

// publicOf is a seed's public half.
func publicOf(seed []byte) []byte { return labelOf(seed, "public", nil, 32) }

// wrapOf is what the library wraps for a public half.
func wrapOf(public, once, info, b []byte) api.Sealed {
	half := publicOf(once)
	secret := tagOf(public, half)
	key, nonce := labelOf(secret, "key", info, 32), labelOf(secret, "nonce", info, 12)
	c, err := aes.NewCipher(labelOf(key, "lock", nil, 16))
	if err != nil {
		panic(err)
	}
	locked := make([]byte, len(b))
	cipher.NewCTR(c, append(bytes.Clone(nonce), 0, 0, 0, 1)).XORKeyStream(locked, b)
	tag := tagOf(labelOf(key, "tag", nil, 32), []byte{0}, nonce, locked)
	return api.Sealed{Half: half, B: append(locked, tag...)}
}

// span is the leaves that a node stands over: the first one, and the place behind the last one.
type span [2]int

// all is the span of the root.
func all(of []api.Node) span { return span{0, (len(of) + 1) / 2} }

// node is the number of the node over a span.
func (s span) node() int { return s[0] + s[1] - 1 }

// isLeaf: is a leaf all of it?
func (s span) isLeaf() bool { return s[1]-s[0] == 1 }

// halves are the spans of a node's children.
func (s span) halves() [2]span {
	half := (s[0] + s[1]) / 2
	return [2]span{{s[0], half}, {half, s[1]}}
}

// holds: is a leaf in it?
func (s span) holds(i int) bool { return s[0] <= i && i < s[1] }

// side is that of the half that holds a leaf.
func (s span) side(i int) int {
	if s.halves()[0].holds(i) {
		return 0
	}
	return 1
}

// beside is the half that doesn't hold a leaf.
func (s span) beside(i int) span { return s.halves()[1-s.side(i)] }

// spans are the spans over a leaf, from the lowest one on.
func spans(of []api.Node, i int) []span {
	var out []span
	for s := all(of); !s.isLeaf(); s = s.halves()[s.side(i)] {
		out = append(out, s)
	}
	slices.Reverse(out)
	return out
}

// resolved is the nodes that cover what is below a span.
func resolved(of []api.Node, s span) []int {
	n := of[s.node()]
	switch {
	case n.Kind != api.Blank:
		out := []int{s.node()}
		for _, i := range n.Un {
			out = append(out, 2*i)
		}
		return out
	case s.isLeaf():
		return nil
	}
	return slices.Concat(resolved(of, s.halves()[0]), resolved(of, s.halves()[1]))
}

// steps are the spans over a leaf beside which somebody is, from the lowest one on.
func steps(of []api.Node, i int) []span {
	return slices.DeleteFunc(spans(of, i), func(s span) bool { return len(resolved(of, s.beside(i))) == 0 })
}

// nodes are the nodes over spans.
func nodes(of []span) []int {
	var out []int
	for _, s := range of {
		out = append(out, s.node())
	}
	return out
}

// nodeOf is a node's bytes.
func nodeOf(n api.Node) []byte {
	var un []byte
	for _, i := range n.Un {
		un = append(un, num2(i)...)
	}
	return [][]byte{
		{0},
		slices.Concat([]byte{1}, num2(n.Name), rowOf(n.Pub), rowOf(n.Hash)),
		slices.Concat([]byte{2}, rowOf(n.Pub), rowOf(n.Hash), rowOf(un)),
	}[n.Kind]
}

// digestOf is a tree's digest at the node over a span.
func digestOf(of []api.Node, s span) []byte {
	own := nodeOf(of[s.node()])
	if s.isLeaf() {
		return sumOf([]byte{1}, num2(s[0]), own)
	}
	return sumOf([]byte{2}, own, rowOf(digestOf(of, s.halves()[0])), rowOf(digestOf(of, s.halves()[1])))
}

// laidOf is what a path is laid in: a Parent that is new has no Un, so that all leaves count for what stands above.
func laidOf(of []api.Node, i int, p api.Path) []api.Node {
	out := clonedAll(of)
	for _, s := range spans(of, i) {
		out[s.node()] = api.Node{}
	}
	for k, s := range steps(of, i) {
		out[s.node()] = api.Node{Kind: api.Parent, Pub: bytes.Clone(p.Step[k].Pub)}
	}
	var above []byte
	for _, s := range slices.Backward(steps(of, i)) {
		n := &out[s.node()]
		n.Hash = above
		above = sumOf([]byte{3}, rowOf(n.Pub), rowOf(n.Hash), rowOf(digestOf(out, s.beside(i))))
	}
	out[2*i] = api.Node{Kind: api.Leaf, Name: of[2*i].Name, Pub: bytes.Clone(p.Pub), Hash: above}
	return out
}

// secretsOf are the secrets of n steps, and the last one.
func secretsOf(first []byte, n int) ([][]byte, []byte) {
	var out [][]byte
	for range n {
		out = append(out, first)
		first = deriveOf(first, "path")
	}
	if n == 0 {
		return nil, deriveOf(first, "path")
	}
	return out, first
}

// sorted is seeds in the order of their nodes.
func sorted(own []api.Seed) []api.Seed {
	out := slices.Clone(own)
	slices.SortFunc(out, func(a, b api.Seed) int { return cmp.Compare(a.Node, b.Node) })
	return out
}

// makeOf is what is made where a leaf lays its path.
func makeOf(of []api.Node, i int, seed, secret, info []byte) api.Made {
	m := api.Made{Path: api.Path{Pub: publicOf(seed)}, Own: []api.Seed{{Node: 2 * i, Seed: seed}}}
	own, last := secretsOf(secret, len(steps(of, i)))
	ahead := 0
	for k, s := range steps(of, i) {
		node := deriveOf(own[k], "node")
		step := api.Step{Pub: publicOf(node)}
		for _, y := range resolved(of, s.beside(i)) {
			step.For = append(step.For, wrapOf(of[y].Pub, labelOf(secret, "once", num4(ahead), 32), info, own[k]))
			ahead++
		}
		m.Path.Step = append(m.Path.Step, step)
		m.Own = append(m.Own, api.Seed{Node: s.node(), Seed: node})
	}
	m.Tree, m.Own, m.Last = laidOf(of, i, m.Path), sorted(m.Own), last
	return m
}

// takeOf is what is made where another leaf takes a path of which it is told what the first secret was.
func takeOf(of []api.Node, i, me int, own []api.Seed, secret []byte, p api.Path) api.Made {
	secrets, last := secretsOf(secret, len(steps(of, i)))
	m := api.Made{Tree: laidOf(of, i, p), Path: p, Last: last}
	on := nodes(spans(of, i))
	for _, seed := range own {
		if !slices.Contains(on, seed.Node) {
			m.Own = append(m.Own, seed)
		}
	}
	for k, s := range steps(of, i) {
		if s.holds(me) {
			m.Own = append(m.Own, api.Seed{Node: s.node(), Seed: deriveOf(secrets[k], "node")})
		}
	}
	m.Own = sorted(m.Own)
	return m
}

// rightOf: are seeds right, by the document's words?
func rightOf(of []api.Node, me int, own []api.Seed) bool {
	if me < 0 || me >= all(of)[1] || of[2*me].Kind == api.Blank {
		return false
	}
	may, must := []int{2 * me}, []int{2 * me}
	for _, s := range spans(of, me) {
		if n := of[s.node()]; n.Kind == api.Parent {
			may = append(may, s.node())
			if !slices.Contains(n.Un, me) {
				must = append(must, s.node())
			}
		}
	}
	var had []int
	for k, seed := range own {
		if k > 0 && own[k-1].Node >= seed.Node || !slices.Contains(may, seed.Node) || len(seed.Seed) != 32 || !bytes.Equal(publicOf(seed.Seed), of[seed.Node].Pub) {
			return false
		}
		had = append(had, seed.Node)
	}
	return !slices.ContainsFunc(must, func(x int) bool { return !slices.Contains(had, x) })
}

// sizes are all counts of leaves that a tree may have.
func sizes() []int { return []int{1, 2, 4, 8, 16, 32, 64, 128, 256, 512, 1024} }

// filled is n bytes that hang on a number.
func filled(n, seed int) []byte {
	out := make([]byte, n)
	for i := range out {
		out[i] = byte(seed*31 + i*7 + 1)
	}
	return out
}

// seedAt is the seed of a node, where it wasn't laid anew.
func seedAt(x int) []byte { return sumOf([]byte("seed"), num4(x)) }

// leafAt is a leaf without Hash.
func leafAt(i int) api.Node {
	return api.Node{Kind: api.Leaf, Name: 100 + i, Pub: publicOf(seedAt(2 * i))}
}

// over is the Parent at a node, with those leaves as its Un.
func over(x int, un ...int) api.Node {
	return api.Node{Kind: api.Parent, Pub: publicOf(seedAt(x)), Un: un}
}

// hashed is a node with a Hash.
func hashed(n api.Node) api.Node {
	n.Hash = filled(32, 99)
	return n
}

// some is a tree of n leaves, of which those stand there that are told; all over them Blank.
func some(n int, there ...int) []api.Node {
	out := make([]api.Node, 2*n-1)
	for _, i := range there {
		out[2*i] = leafAt(i)
	}
	return out
}

// upTo is the numbers from 0 to one less than n.
func upTo(n int) []int {
	var out []int
	for i := range n {
		out = append(out, i)
	}
	return out
}

// full is a tree of n leaves, all of them there.
func full(n int) []api.Node { return some(n, upTo(n)...) }

// whole is a tree of n leaves, all of them there, and all over them Parents without Un and Hash.
func whole(n int) []api.Node {
	out := full(n)
	for x := 1; x < len(out); x += 2 {
		out[x] = over(x)
	}
	return out
}

// put is a tree with some of its nodes others.
func put(of []api.Node, nodes map[int]api.Node) []api.Node {
	out := clonedAll(of)
	for x, n := range nodes {
		out[x] = n
	}
	return out
}

// mixed is a tree of 8 leaves, the one at 5 Blank, with Parents that are known to all below, and such that aren't, with a Hash and without.
func mixed() []api.Node {
	return put(some(8, 0, 1, 2, 3, 4, 6, 7), map[int]api.Node{
		1:  over(1, 1),
		2:  hashed(leafAt(1)),
		3:  hashed(over(3)),
		7:  over(7, 0, 3, 4, 7),
		9:  over(9),
		13: hashed(over(13, 6, 7)),
	})
}

// woods are trees of all kinds: of one leaf and of more, with leaves that are Blank, with Parents over none, some and all of them, and drawn ones.
func woods() [][]api.Node {
	out := [][]api.Node{full(1), {hashed(leafAt(0))}, full(2), whole(2), some(2, 1), put(some(2, 0), map[int]api.Node{1: hashed(over(1))}), full(4), whole(4), full(8), whole(8), mixed(), some(8, 5), some(8, 0, 7), some(16, 3, 4, 11)}
	// Parents over Blank leaves alone, which cover nobody, but stand there.
	out = append(out, put(some(4, 0), map[int]api.Node{5: over(5), 3: over(3, 0)}), put(whole(4), map[int]api.Node{0: {}, 2: {}}))
	d := draws(11)
	for range 25 {
		out = append(out, drawnTree(&d))
	}
	return out
}

// draws tells numbers that hang on the first one alone.
type draws uint64

// below is the next number, from 0 to one less than n.
func (d *draws) below(n int) int {
	*d = *d*6364136223846793005 + 1442695040888963407
	return int(uint64(*d)>>33) % n
}

// drawnTree is a right tree: each of its nodes is drawn.
func drawnTree(d *draws) []api.Node {
	n := 1 << d.below(5)
	out := some(n, d.below(n))
	for i := range n {
		if d.below(4) > 0 {
			out[2*i] = leafAt(i)
		}
	}
	for x := 1; x < len(out); x += 2 {
		if d.below(2) > 0 {
			out[x] = over(x)
		}
	}
	for i := range n {
		if out[2*i].Kind == api.Blank {
			continue
		}
		for _, s := range spans(out, i) {
			if out[s.node()].Kind == api.Parent && d.below(4) == 0 {
				out[s.node()].Un = append(out[s.node()].Un, i)
			}
		}
	}
	for x, n := range out {
		if n.Kind != api.Blank && d.below(3) == 0 {
			out[x] = hashed(n)
		}
	}
	return out
}

// there are the leaves of a tree that aren't Blank.
func there(of []api.Node) []int {
	return slices.DeleteFunc(upTo(all(of)[1]), func(i int) bool { return of[2*i].Kind == api.Blank })
}

// ownOf are the seeds that a leaf must know, of a tree whose nodes have the seeds of their places.
func ownOf(of []api.Node, me int) []api.Seed {
	out := []api.Seed{{Node: 2 * me, Seed: seedAt(2 * me)}}
	for _, s := range spans(of, me) {
		if n := of[s.node()]; n.Kind == api.Parent && !slices.Contains(n.Un, me) {
			out = append(out, api.Seed{Node: s.node(), Seed: seedAt(s.node())})
		}
	}
	return sorted(out)
}

// knownOf are the seeds that a leaf may know: those, too, of Parents whose Un tells it.
func knownOf(of []api.Node, me int) []api.Seed {
	out := clonedAll(of)
	for x := range out {
		out[x].Un = nil
	}
	return ownOf(out, me)
}

// but is seeds without those of some nodes.
func but(own []api.Seed, nodes ...int) []api.Seed {
	return slices.DeleteFunc(slices.Clone(own), func(s api.Seed) bool { return slices.Contains(nodes, s.Node) })
}

// clonedAll is a tree that shares nothing with another one.
func clonedAll(of []api.Node) []api.Node {
	out := make([]api.Node, len(of))
	for x, n := range of {
		n.Pub, n.Un, n.Hash = bytes.Clone(n.Pub), slices.Clone(n.Un), bytes.Clone(n.Hash)
		out[x] = n
	}
	return out
}

// clonedSeeds are seeds that share nothing with others.
func clonedSeeds(own []api.Seed) []api.Seed {
	out := make([]api.Seed, len(own))
	for k, seed := range own {
		out[k] = api.Seed{Node: seed.Node, Seed: bytes.Clone(seed.Seed)}
	}
	return out
}

// clonedPath is a path that shares nothing with another one.
func clonedPath(p api.Path) api.Path {
	out := api.Path{Pub: bytes.Clone(p.Pub)}
	for _, s := range p.Step {
		step := api.Step{Pub: bytes.Clone(s.Pub)}
		for _, box := range s.For {
			step.For = append(step.For, api.Sealed{Half: bytes.Clone(box.Half), B: bytes.Clone(box.B)})
		}
		out.Step = append(out.Step, step)
	}
	return out
}

// told is a row of nodes as a text, a line a node.
func told(of []api.Node) string {
	var out strings.Builder
	for x, n := range of {
		fmt.Fprintf(&out, "%d: %d %d %x %v %x\n", x, n.Kind, n.Name, n.Pub, n.Un, n.Hash)
	}
	return out.String()
}

// toldSeeds is seeds as a text, a line a seed.
func toldSeeds(own []api.Seed) string {
	var out strings.Builder
	for _, seed := range own {
		fmt.Fprintf(&out, "seed of %d: %x\n", seed.Node, seed.Seed)
	}
	return out.String()
}

// toldPath is a path as a text, a line a step, and what was wrapped.
func toldPath(p api.Path) string {
	var out strings.Builder
	fmt.Fprintf(&out, "path %x\n", p.Pub)
	for _, s := range p.Step {
		fmt.Fprintf(&out, "step %x\n", s.Pub)
		for _, box := range s.For {
			fmt.Fprintf(&out, "for %x %x\n", box.Half, box.B)
		}
	}
	return out.String()
}

// toldMade is all that was made, as a text.
func toldMade(m api.Made) string {
	return told(m.Tree) + toldSeeds(m.Own) + toldPath(m.Path) + fmt.Sprintf("last %x\n", m.Last)
}

// isMade asks that a call made that, without an error.
func isMade(t *testing.T, got api.Made, e api.Errno, want api.Made, what ...any) {
	t.Helper()
	if e != api.OK || toldMade(got) != toldMade(want) {
		t.Errorf("%v: error %d, and\n%swant\n%s", what, e, toldMade(got), toldMade(want))
	}
}

// isNothing asks that a call answered that error, and nothing beside it.
func isNothing(t *testing.T, got api.Made, e, want api.Errno, what ...any) {
	t.Helper()
	if e != want || len(got.Tree)+len(got.Own)+len(got.Path.Pub)+len(got.Path.Step)+len(got.Last) > 0 {
		t.Errorf("%v: error %d (want %d), and\n%s", what, e, want, toldMade(got))
	}
}

// noLeaves are numbers that no leaf of a tree of n leaves has; twice some of them is the number of a node.
func noLeaves(n int) []int {
	out := []int{-1, -2, -n, least, least + 1, least / 2, least/2 + 1, greatest, greatest - 1, greatest/2 + 1, greatest/2 + 2, -1 << 32, 1 << 32}
	for _, i := range []int{n, n + 1, 2*n - 2, 2*n - 1, 2 * n, 1023, 1024, 2047} {
		if i >= n {
			out = append(out, i)
		}
	}
	return out
}
