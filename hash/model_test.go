package hash_test

import (
	"bytes"
	"crypto/sha256"
	"encoding/binary"
	"encoding/hex"
	"fmt"
	"slices"
	"strings"
	"testing"

	"pyx/api"
)

const (
	least    = -1 << 63  // the least number that there is
	greatest = 1<<63 - 1 // the greatest one
)

// span is the leaves that a node stands over: the first one, and the place behind the last one.
type span [2]int

// all is the span of the root.
func all(t []api.Node) span { return span{0, (len(t) + 1) / 2} }

// node is the number of the node over a span: as many nodes as the spans ahead of its middle tell stand ahead of it.
func (s span) node() int { return s[0] + s[1] - 1 }

// isLeaf: is a leaf all of it?
func (s span) isLeaf() bool { return s[1]-s[0] == 1 }

// halves are the spans of a node's children.
func (s span) halves() [2]span {
	half := (s[0] + s[1]) / 2
	return [2]span{{s[0], half}, {half, s[1]}}
}

// holds: is a leaf in it?
func (s span) holds(i int) bool { return s[0] <= i && i < s[1] }

// side is that of the half that holds a leaf.
func (s span) side(i int) int {
	if s.halves()[0].holds(i) {
		return 0
	}
	return 1
}

// under is a span, and all spans below it, by their nodes.
func (s span) under() map[int]span {
	out := map[int]span{s.node(): s}
	if !s.isLeaf() {
		for _, half := range s.halves() {
			for x, below := range half.under() {
				out[x] = below
			}
		}
	}
	return out
}

// path is the spans over a leaf, from the root's down.
func path(t []api.Node, i int) []span {
	var out []span
	for s := all(t); !s.isLeaf(); s = s.halves()[s.side(i)] {
		out = append(out, s)
	}
	return out
}

// num2 is a number of 2 bytes.
func num2(n int) []byte { return binary.BigEndian.AppendUint16(nil, uint16(n)) }

// rowOf is a row, of at most 16383 bytes.
func rowOf(x []byte) []byte {
	if len(x) < 64 {
		return append([]byte{byte(len(x))}, x...)
	}
	return append(num2(len(x)+16384), x...)
}

// nodeOf is a node's bytes, of the document's words.
func nodeOf(n api.Node) []byte {
	var un []byte
	for _, i := range n.Un {
		un = append(un, num2(i)...)
	}
	return [][]byte{
		{0},
		slices.Concat([]byte{1}, num2(n.Name), rowOf(n.Pub), rowOf(n.Hash)),
		slices.Concat([]byte{2}, rowOf(n.Pub), rowOf(n.Hash), rowOf(un)),
	}[n.Kind]
}

// sumOf is the library's digest of parts one behind the other.
func sumOf(parts ...[]byte) []byte {
	sum := sha256.Sum256(slices.Concat(parts...))
	return sum[:]
}

// digestOf is a tree's digest at the node over a span.
func digestOf(t []api.Node, s span) []byte {
	own := nodeOf(t[s.node()])
	if s.isLeaf() {
		return sumOf([]byte{1}, num2(s[0]), own)
	}
	return sumOf([]byte{2}, own, rowOf(digestOf(t, s.halves()[0])), rowOf(digestOf(t, s.halves()[1])))
}

// without is a tree in which leaves are Blank, and in no Un.
func without(t []api.Node, leaves []int) []api.Node {
	out := clonedAll(t)
	for _, i := range leaves {
		out[2*i] = api.Node{}
	}
	for x := range out {
		out[x].Un = slices.DeleteFunc(out[x].Un, func(i int) bool { return slices.Contains(leaves, i) })
	}
	return out
}

// aboveOf is what stands above the child on a side of the node over a span.
func aboveOf(t []api.Node, s span, side int) []byte {
	n := t[s.node()]
	return sumOf([]byte{3}, rowOf(n.Pub), rowOf(n.Hash), rowOf(digestOf(without(t, n.Un), s.halves()[1-side])))
}

// laidOf is a tree in which a leaf's path is laid.
func laidOf(t []api.Node, i int) []api.Node {
	out := clonedAll(t)
	var hash []byte
	for _, s := range path(t, i) {
		if out[s.node()].Kind == api.Parent {
			out[s.node()].Hash = hash
			hash = aboveOf(out, s, s.side(i))
		}
	}
	out[2*i].Hash = hash
	return out
}

// resolved is the nodes that cover what is below a span.
func resolved(t []api.Node, s span) []int {
	n := t[s.node()]
	switch {
	case n.Kind != api.Blank:
		out := []int{s.node()}
		for _, i := range n.Un {
			out = append(out, 2*i)
		}
		return out
	case s.isLeaf():
		return nil
	}
	return slices.Concat(resolved(t, s.halves()[0]), resolved(t, s.halves()[1]))
}

// holders are the nodes that hold a Parent, by the side that they are on.
func holders(t []api.Node, s span) [2][]int {
	var out [2][]int
	for side, half := range s.halves() {
		want := aboveOf(t, s, side)
		for _, y := range resolved(t, half) {
			isUn := y%2 == 0 && slices.Contains(t[s.node()].Un, y/2)
			if !isUn && bytes.Equal(t[y].Hash, want) {
				out[side] = append(out[side], y)
			}
		}
	}
	return out
}

// heldOf: is each Parent held?
func heldOf(t []api.Node) bool {
	for x, s := range all(t).under() {
		if t[x].Kind != api.Parent {
			continue
		}
		if by := holders(t, s); len(by[0])+len(by[1]) == 0 {
			return false
		}
	}
	return true
}

// sizes are all counts of leaves that a tree may have.
func sizes() []int { return []int{1, 2, 4, 8, 16, 32, 64, 128, 256, 512, 1024} }

// bytesOf is n bytes that hang on a number.
func bytesOf(n, seed int) []byte {
	out := make([]byte, n)
	for i := range out {
		out[i] = byte(seed*31 + i*7 + 1)
	}
	return out
}

// half is a public half that hangs on a number.
func half(seed int) []byte { return bytesOf(32, seed) }

// leafOf is a leaf without Hash.
func leafOf(name int) api.Node { return api.Node{Kind: api.Leaf, Name: name, Pub: half(name)} }

// over is a Parent with those leaves as its Un.
func over(seed int, un ...int) api.Node {
	return api.Node{Kind: api.Parent, Pub: half(seed), Un: un}
}

// hashed is a node with a Hash.
func hashed(n api.Node) api.Node {
	n.Hash = bytesOf(32, 99)
	return n
}

// some is a tree of n leaves, of which those stand there that are told, with 100 and their places as names; all over them Blank.
func some(n int, there ...int) []api.Node {
	out := make([]api.Node, 2*n-1)
	for _, i := range there {
		out[2*i] = leafOf(100 + i)
	}
	return out
}

// upTo is the numbers from 0 to one less than n.
func upTo(n int) []int {
	var out []int
	for i := range n {
		out = append(out, i)
	}
	return out
}

// full is a tree of n leaves, all of them there.
func full(n int) []api.Node { return some(n, upTo(n)...) }

// whole is a tree of n leaves, all of them there, and all over them Parents without Un and Hash.
func whole(n int) []api.Node {
	out := full(n)
	for x := 1; x < len(out); x += 2 {
		out[x] = over(x)
	}
	return out
}

// put is a tree with some of its nodes others.
func put(t []api.Node, nodes map[int]api.Node) []api.Node {
	out := clonedAll(t)
	for x, n := range nodes {
		out[x] = n
	}
	return out
}

// mixed is a tree of 8 leaves, the one at 5 Blank, with Parents that are known to all below, and such that aren't, with a Hash and without.
func mixed() []api.Node {
	return put(some(8, 0, 1, 2, 3, 4, 6, 7), map[int]api.Node{
		1:  over(1, 1),
		2:  hashed(leafOf(101)),
		3:  hashed(over(3)),
		7:  over(7, 0, 3, 4, 7),
		9:  over(9),
		13: hashed(over(13, 6, 7)),
	})
}

// cloned is a node that shares nothing with another one.
func cloned(n api.Node) api.Node {
	n.Pub, n.Un, n.Hash = bytes.Clone(n.Pub), slices.Clone(n.Un), bytes.Clone(n.Hash)
	return n
}

// clonedAll is a tree that shares nothing with another one.
func clonedAll(t []api.Node) []api.Node {
	out := make([]api.Node, len(t))
	for x, n := range t {
		out[x] = cloned(n)
	}
	return out
}

// told is a row of nodes as a text, a line a node.
func told(t []api.Node) string {
	var out strings.Builder
	for x, n := range t {
		fmt.Fprintf(&out, "%d: %d %d %x %v %x\n", x, n.Kind, n.Name, n.Pub, n.Un, n.Hash)
	}
	return out.String()
}

// figures is the bytes of a text.
func figures(t *testing.T, s string) []byte {
	t.Helper()
	b, err := hex.DecodeString(strings.ReplaceAll(s, " ", ""))
	if err != nil {
		t.Fatal(err)
	}
	return b
}

// isBytes asks that a call answered those bytes, without an error.
func isBytes(t *testing.T, got []byte, e api.Errno, want []byte, what ...any) {
	t.Helper()
	if e != api.OK || !bytes.Equal(got, want) {
		t.Errorf("%v: error %d, and %x; want %x", what, e, got, want)
	}
}

// isRefused asks that a call answered that error, and none beside it.
func isRefused(t *testing.T, got []byte, e, want api.Errno, what ...any) {
	t.Helper()
	if e != want || got != nil {
		t.Errorf("%v: error %d, and %x; want error %d", what, e, got, want)
	}
}

// noNodes are numbers that no node of a tree of n leaves has.
func noNodes(n int) []int {
	out := []int{-1, -2, -3, -n, -2 * n, least, least + 1, least / 2, greatest, greatest - 1, greatest / 2, 2047, 2048, 4095, 1 << 32, 1<<32 + 1, -1 << 32}
	for _, x := range []int{2*n - 1, 2 * n, 2*n + 1, 4*n - 1, 2046} {
		if x > 2*n-2 {
			out = append(out, x)
		}
	}
	return out
}
