package hash_test

import (
	"bytes"
	"slices"
	"strings"
	"testing"

	"pyx/api"
	"pyx/hash"
)

// isNode asks for a node's bytes.
func isNode(t *testing.T, n api.Node, want string) {
	t.Helper()
	if got := hash.Node(n); !bytes.Equal(got, figures(t, want)) {
		t.Errorf("%v: %x; want %s", n, got, want)
	}
}

// P10.1, the document's example: a Blank node's bytes are 00.
func TestNodeOfBlank(t *testing.T) {
	isNode(t, api.Node{}, "00")
	isNode(t, api.Node{Pub: []byte{}, Un: []int{}, Hash: []byte{}}, "00")
}

// P10.1: a Leaf's are its Kind, its Name, of the least and the greatest too, and the rows of its Pub and its Hash, be that none.
func TestNodeOfLeaf(t *testing.T) {
	pub, sum := strings.Repeat("7a", 32), strings.Repeat("c3", 32)
	for _, x := range []struct {
		name int
		want string
	}{{0, "0000"}, {1, "0001"}, {255, "00ff"}, {256, "0100"}, {258, "0102"}, {4660, "1234"}, {65534, "fffe"}, {65535, "ffff"}} {
		n := api.Node{Kind: api.Leaf, Name: x.name, Pub: bytes.Repeat([]byte{0x7a}, 32)}
		isNode(t, n, "01"+x.want+"20"+pub+"00")
		n.Hash = bytes.Repeat([]byte{0xc3}, 32)
		isNode(t, n, "01"+x.want+"20"+pub+"20"+sum)
	}
}

// P10.1: a Parent's are its Kind, without a Name, and the rows of its Pub, its Hash, and its Un, each of these as 2 bytes.
func TestNodeOfParent(t *testing.T) {
	pub, sum := strings.Repeat("7a", 32), strings.Repeat("c3", 32)
	for _, x := range []struct {
		un   []int
		want string
	}{
		{nil, "00"}, {[]int{}, "00"}, {[]int{0}, "020000"}, {[]int{1}, "020001"}, {[]int{3, 300}, "040003012c"},
		{[]int{0, 255, 256, 1023}, "08000000ff010003ff"},
		{upTo(31), "3e" + pairs(31)}, {upTo(32), "4040" + pairs(32)}, {upTo(1024), "4800" + pairs(1024)},
	} {
		n := api.Node{Kind: api.Parent, Pub: bytes.Repeat([]byte{0x7a}, 32), Un: x.un}
		isNode(t, n, "0220"+pub+"00"+x.want)
		n.Hash = bytes.Repeat([]byte{0xc3}, 32)
		isNode(t, n, "0220"+pub+"20"+sum+x.want)
	}
}

// pairs is the numbers from 0 to one less than n, as a text of 2 bytes each.
func pairs(n int) string {
	const sign = "0123456789abcdef"
	var out strings.Builder
	for i := range n {
		out.WriteString("0" + sign[i>>8:i>>8+1] + sign[i>>4&15:i>>4&15+1] + sign[i&15:i&15+1])
	}
	return out.String()
}

// kinds are nodes, no two of which are the same.
func kinds() []api.Node {
	out := []api.Node{{}}
	for _, seed := range []int{1, 2, 99} {
		for _, name := range []int{0, 1, 256, 65535} {
			n := api.Node{Kind: api.Leaf, Name: name, Pub: half(seed)}
			out = append(out, n, hashed(n))
		}
		for _, un := range [][]int{nil, {0}, {1}, {256}, {0, 1}, {1, 2}, {0, 1, 2}, upTo(31), upTo(32), upTo(33)} {
			out = append(out, over(seed, un...), hashed(over(seed, un...)))
		}
	}
	return out
}

// P10.5: nodes that aren't the same have other bytes, and neither's are the beginning of the other's.
func TestNodesTellThemselves(t *testing.T) {
	for i, a := range kinds() {
		for j, b := range kinds() {
			if bytes.HasPrefix(hash.Node(a), hash.Node(b)) != (i == j) {
				t.Errorf("%x\nbegins, or doesn't begin, with\n%x", hash.Node(a), hash.Node(b))
			}
		}
	}
}

// P10.1: of all nodes as the model has it, and each byte of a Pub and of a Hash counts.
func TestNodeAsModel(t *testing.T) {
	for _, n := range slices.Concat(kinds(), mixed(), whole(64)) {
		got := hash.Node(n)
		if !bytes.Equal(got, nodeOf(n)) {
			t.Errorf("%x; want %x", got, nodeOf(n))
		}
		for i := range len(n.Pub) + len(n.Hash) {
			other := cloned(n)
			if i < 32 {
				other.Pub[i] ^= 64
			} else {
				other.Hash[i-32] ^= 64
			}
			if bytes.Equal(hash.Node(other), got) {
				t.Errorf("byte %d of %v doesn't count", i, n)
			}
		}
	}
}
