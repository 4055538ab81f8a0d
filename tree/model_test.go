package tree_test

import (
	"bytes"
	"fmt"
	"slices"
	"strings"
	"testing"

	"pyx/api"
)

const (
	least    = -1 << 63  // the least number that there is
	greatest = 1<<63 - 1 // the greatest one
)

// span is the leaves that a node stands over: the first one, and the place behind the last one.
type span [2]int

// node is the number of the node over a span: as many nodes as the spans ahead of its middle tell stand ahead of it.
func (s span) node() int { return s[0] + s[1] - 1 }

// halves are the spans of a node's children.
func (s span) halves() (span, span) {
	half := (s[0] + s[1]) / 2
	return span{s[0], half}, span{half, s[1]}
}

// holds: is a leaf below the node over a span, or that one?
func (s span) holds(i int) bool { return s[0] <= i && i < s[1] }

// model is a tree told otherwise: by its leaves, and by the spans that its Parents stand over, found by halving; a node that lacks is Blank.
type model struct {
	many int
	leaf map[int]api.Node
	over map[span]api.Node
}

// emptyModel is a model of Blank nodes alone.
func emptyModel(n int) model {
	return model{many: n, leaf: map[int]api.Node{}, over: map[span]api.Node{}}
}

// modelOf is the model of a row of nodes, and whether that is right, as the document's words have it.
func modelOf(t []api.Node) (model, bool) {
	for _, n := range sizes() {
		if len(t) == 2*n-1 {
			m := emptyModel(n)
			ok := m.read(t, span{0, n})
			return m, ok && m.isNamed() && m.isKnown()
		}
	}
	return model{}, false
}

// read takes over the nodes below, and at, the one over a span: are they of the right kinds, with what those have?
func (m model) read(t []api.Node, s span) bool {
	n, isLeaf := t[s.node()], s[1]-s[0] == 1
	pub, hash := len(n.Pub) == 32, len(n.Hash) == 0 || len(n.Hash) == 32
	var ok bool
	switch {
	case n.Kind == api.Blank:
		ok = n.Name == 0 && len(n.Pub) == 0 && len(n.Un) == 0 && len(n.Hash) == 0
	case n.Kind == api.Leaf && isLeaf:
		ok = pub && hash && n.Name >= 0 && n.Name <= 65535 && len(n.Un) == 0
		m.leaf[s[0]] = cloned(n)
	case n.Kind == api.Parent && !isLeaf:
		ok = pub && hash && n.Name == 0
		m.over[s] = cloned(n)
	}
	if !ok || isLeaf {
		return ok
	}
	left, right := s.halves()
	return m.read(t, left) && m.read(t, right)
}

// isNamed: is there a leaf, and has each another name?
func (m model) isNamed() bool {
	names := map[int]int{}
	for _, leaf := range m.leaf {
		names[leaf.Name]++
	}
	return len(m.leaf) > 0 && len(names) == len(m.leaf)
}

// isKnown: are each Parent's Un leaves below it, rising?
func (m model) isKnown() bool {
	for s, n := range m.over {
		for k, i := range n.Un {
			if _, is := m.leaf[i]; !is || !s.holds(i) || k > 0 && n.Un[k-1] >= i {
				return false
			}
		}
	}
	return true
}

// nodes is the model's tree, laid from the left.
func (m model) nodes() []api.Node { return m.lay(span{0, m.many}) }

// lay is the nodes below, and at, the one over a span.
func (m model) lay(s span) []api.Node {
	if s[1]-s[0] == 1 {
		return []api.Node{cloned(m.leaf[s[0]])}
	}
	left, right := s.halves()
	return slices.Concat(m.lay(left), []api.Node{cloned(m.over[s])}, m.lay(right))
}

// find is the leaf of a name.
func (m model) find(name int) (int, bool) {
	for i, leaf := range m.leaf {
		if leaf.Name == name {
			return i, true
		}
	}
	return 0, false
}

// add lets a leaf come, which the caller has seen may come.
func (m *model) add(name int, pub []byte) int {
	i := 0
	for _, is := m.leaf[i]; is; _, is = m.leaf[i] {
		i++
	}
	if i == m.many {
		m.many *= 2
	}
	m.leaf[i] = api.Node{Kind: api.Leaf, Name: name, Pub: pub}
	for s, n := range m.over {
		if s.holds(i) {
			n.Un = append(slices.Clone(n.Un), i)
			slices.Sort(n.Un)
			m.over[s] = n
		}
	}
	return i
}

// blank blanks a leaf's path.
func (m *model) blank(i int) {
	for s := range m.over {
		if s.holds(i) {
			delete(m.over, s)
		}
	}
}

// remove lets a leaf go, which the caller has seen may go.
func (m *model) remove(i int) {
	delete(m.leaf, i)
	m.blank(i)
	for m.many > 1 && len(m.below(span{m.many / 2, m.many})) == 0 {
		m.many /= 2
		for s := range m.over {
			if s[1] > m.many {
				delete(m.over, s)
			}
		}
	}
}

// update changes a leaf that is there.
func (m *model) update(i int, pub []byte) {
	m.leaf[i] = api.Node{Kind: api.Leaf, Name: m.leaf[i].Name, Pub: pub}
	m.blank(i)
}

// below is the leaves of a span that aren't Blank.
func (m model) below(s span) []int {
	var out []int
	for i := s[0]; i < s[1]; i++ {
		if _, is := m.leaf[i]; is {
			out = append(out, i)
		}
	}
	return out
}

// spans are those of all nodes, by their numbers.
func (m model) spans() map[int]span {
	out := map[int]span{}
	var gone func(s span)
	gone = func(s span) {
		out[s.node()] = s
		if s[1]-s[0] > 1 {
			left, right := s.halves()
			gone(left)
			gone(right)
		}
	}
	gone(span{0, m.many})
	return out
}

// resolve is the nodes that cover what is below a span.
func (m model) resolve(s span) []int {
	if s[1]-s[0] == 1 {
		if len(m.below(s)) == 0 {
			return nil
		}
		return []int{s.node()}
	}
	if n, is := m.over[s]; is {
		out := []int{s.node()}
		for _, i := range n.Un {
			out = append(out, 2*i)
		}
		return out
	}
	left, right := s.halves()
	return slices.Concat(m.resolve(left), m.resolve(right))
}

// sizes are all counts of leaves that a tree may have.
func sizes() []int { return []int{1, 2, 4, 8, 16, 32, 64, 128, 256, 512, 1024} }

// row is n bytes that hang on a number.
func row(n, seed int) []byte {
	out := make([]byte, n)
	for i := range out {
		out[i] = byte(seed*31 + i*7 + 1)
	}
	return out
}

// half is a public half that hangs on a number.
func half(seed int) []byte { return row(32, seed) }

// leafOf is a leaf without Hash.
func leafOf(name int) api.Node { return api.Node{Kind: api.Leaf, Name: name, Pub: half(name)} }

// over is a Parent with those leaves as its Un.
func over(seed int, un ...int) api.Node {
	return api.Node{Kind: api.Parent, Pub: half(seed), Un: un}
}

// hashed is a node with a Hash.
func hashed(n api.Node) api.Node {
	n.Hash = row(32, 99)
	return n
}

// laid is a tree of n leaves, of which those stand there that are told, with 100 and their places as names; all over them Blank.
func laid(n int, there ...int) []api.Node {
	out := make([]api.Node, 2*n-1)
	for _, i := range there {
		out[2*i] = leafOf(100 + i)
	}
	return out
}

// upTo is the numbers from 0 to one less than n.
func upTo(n int) []int {
	var out []int
	for i := range n {
		out = append(out, i)
	}
	return out
}

// full is a tree of n leaves, all of them there.
func full(n int) []api.Node { return laid(n, upTo(n)...) }

// put is a tree with some of its nodes others.
func put(t []api.Node, nodes map[int]api.Node) []api.Node {
	out := clonedAll(t)
	for x, n := range nodes {
		out[x] = n
	}
	return out
}

// mixed is a tree of 8 leaves, the one at 5 Blank, with Parents that are known to all below, and such that aren't, with a Hash and without.
func mixed() []api.Node {
	return put(laid(8, 0, 1, 2, 3, 4, 6, 7), map[int]api.Node{
		1:  over(1, 1),
		2:  hashed(leafOf(101)),
		3:  hashed(over(3)),
		7:  over(7, 0, 3, 4, 7),
		9:  over(9),
		13: hashed(over(13, 6, 7)),
	})
}

// cloned is a node that shares nothing with another one.
func cloned(n api.Node) api.Node {
	n.Pub, n.Un, n.Hash = bytes.Clone(n.Pub), slices.Clone(n.Un), bytes.Clone(n.Hash)
	return n
}

// clonedAll is a tree that shares nothing with another one.
func clonedAll(t []api.Node) []api.Node {
	out := make([]api.Node, len(t))
	for x, n := range t {
		out[x] = cloned(n)
	}
	return out
}

// told is a row of nodes as a text, a line a node.
func told(t []api.Node) string {
	var out strings.Builder
	for x, n := range t {
		fmt.Fprintf(&out, "%d: %d %d %x %v %x\n", x, n.Kind, n.Name, n.Pub, n.Un, n.Hash)
	}
	return out.String()
}

// isTree asks that a call answered this tree, without an error.
func isTree(t *testing.T, got []api.Node, e api.Errno, want []api.Node, what ...any) {
	t.Helper()
	if e != api.OK || told(got) != told(want) {
		t.Errorf("%v: error %d, and\n%swant\n%s", what, e, told(got), told(want))
	}
}

// isKept asks that a call answered that error, and the tree as it was.
func isKept(t *testing.T, got []api.Node, e, want api.Errno, was []api.Node, what ...any) {
	t.Helper()
	if e != want || told(got) != told(was) {
		t.Errorf("%v: error %d (want %d), and\n%swant\n%s", what, e, want, told(got), told(was))
	}
}
