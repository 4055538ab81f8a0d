package schema_test

import (
	"bytes"
	"testing"

	"pyx/api"
	"pyx/group"
	"pyx/schema"
)

// isDecoded asks that bytes of a version are those of a group, which comes whole.
func isDecoded(t *testing.T, what string, v int, b []byte, want api.Group) {
	t.Helper()
	was := bytes.Clone(b)
	g, e := schema.Decode(v, b)
	if e != api.OK || told(g) != told(want) || !group.Same(g, want) || !group.Right(g) {
		t.Errorf("%s, version %d: %d, %s; want %s", what, v, e, told(g), told(want))
	}
	if !bytes.Equal(b, was) {
		t.Errorf("%s, version %d: written into", what, v)
	}
}

// isRefused asks that bytes are refused, and that nothing comes but the error.
func isRefused(t *testing.T, what string, v int, b []byte, want api.Errno) {
	t.Helper()
	g, e := schema.Decode(v, b)
	if e != want || told(g) != told(api.Group{}) || g.Id != nil || g.Tree != nil || g.Own != nil || g.Log != nil || g.Chain != nil || g.Psk != nil {
		t.Errorf("%s, version %d: %d, %s; want %d", what, v, e, told(g), want)
	}
}

// isAsModel asks that bytes are decoded as the second way does it, and tells whether they are.
func isAsModel(t *testing.T, what string, v int, b []byte) bool {
	t.Helper()
	want, is := groupIn(v, b)
	if is {
		isDecoded(t, what, v, b, want)
	} else {
		isRefused(t, what, v, b, api.ErrForm)
	}
	return is
}

// P15.2, P15.3: groups of all kinds come out of their bytes, whole, by each version that can tell them.
func TestDecode(t *testing.T) {
	for _, x := range samples(t) {
		for v := x.least; v <= 4; v++ {
			isDecoded(t, x.what, v, bytesOf(v, x.g), x.g)
		}
	}
}

// P15.2: what is no version has no bytes: ErrVersion, of right ones, of none, and of too many.
func TestDecodeNoVersion(t *testing.T) {
	g := ofFour(false, false, 9)
	rows := [][]byte{nil, {}, {0}, make([]byte, mostBytes), make([]byte, mostBytes+1), make([]byte, 2*mostBytes)}
	for _, v := range versions {
		rows = append(rows, bytesOf(v, g))
	}
	for _, v := range others {
		for _, b := range rows {
			isRefused(t, "no version", v, b, api.ErrVersion)
		}
	}
}

// P15.2: 2^20 bytes may be such, though no right group has as many; one more is too many, whatever they begin with.
func TestDecodeBig(t *testing.T) {
	for _, v := range versions {
		for _, n := range []int{0, 1, 2, 100, 65536, mostBytes - 1, mostBytes} {
			isRefused(t, "zeros", v, make([]byte, n), api.ErrForm)
			isRefused(t, "ones", v, bytes.Repeat([]byte{1}, n), api.ErrForm)
			isRefused(t, "all bits", v, bytes.Repeat([]byte{255}, n), api.ErrForm)
		}
		for _, n := range []int{mostBytes + 1, mostBytes + 2, 2 * mostBytes} {
			isRefused(t, "zeros", v, make([]byte, n), api.ErrBig)
			isRefused(t, "all bits", v, bytes.Repeat([]byte{255}, n), api.ErrBig)
			right := bytesOf(v, ofFour(false, false, 9))
			isRefused(t, "a group, and more", v, append(right, make([]byte, n-len(right))...), api.ErrBig)
		}
		right := bytesOf(v, ofFour(false, false, 9))
		isRefused(t, "a group, and more", v, append(right, make([]byte, mostBytes-len(right))...), api.ErrForm)
		isRefused(t, "nothing", v, nil, api.ErrForm)
	}
	// Bytes of a form that is such, but of a group that isn't right: the greatest Id that there is room for.
	g := ofFour(false, false, 9)
	g.Id = nil
	g.Id = counted(mostBytes-len(bytesOf(4, g))-3, 0)
	if b := bytesOf(4, g); len(b) != mostBytes {
		t.Fatal(len(b))
	} else {
		isRefused(t, "a long Id", 4, b, api.ErrForm)
	}
	g.Id = append(g.Id, 0)
	isRefused(t, "a longer Id", 4, bytesOf(4, g), api.ErrBig)
}

// P15.2: a right group has at most 2^20 bytes, however full it is.
func TestFullest(t *testing.T) {
	g := fullest(t)
	b, e := schema.Encode(4, g)
	if e != api.OK || !group.Right(g) || len(b) < 100000 || len(b) > mostBytes {
		t.Errorf("%d, %d bytes", e, len(b))
	}
	isDecoded(t, "the fullest", 4, b, g)
}

// fours are groups of four leaves, that the versions from the least one on can tell.
func fours() []sample {
	return []sample{
		{"plain", 1, ofFour(false, false, 9)},
		{"with spares", 2, ofFour(true, false, 1<<32-1)},
		{"with shared secrets", 3, ofFour(false, true, 0)},
		{"with all", 3, ofFour(true, true, 258)},
		{"with all, and late", 4, ofFour(true, true, lastEpoch)},
	}
}

// P15.2: each beginning of a group's bytes, and those with a byte more, or more of them, ahead or behind, are refused.
func TestDecodeLessAndMore(t *testing.T) {
	for _, x := range fours() {
		for v := x.least; v <= 4; v++ {
			b := bytesOf(v, x.g)
			for n := range b {
				isRefused(t, x.what+", cut", v, b[:n], api.ErrForm)
			}
			for c := range 256 {
				isRefused(t, x.what+", a byte more", v, append(bytes.Clone(b), byte(c)), api.ErrForm)
			}
			isRefused(t, x.what+", twice", v, append(bytes.Clone(b), b...), api.ErrForm)
			isRefused(t, x.what+", zeros behind", v, append(bytes.Clone(b), make([]byte, 300)...), api.ErrForm)
			isRefused(t, x.what+", a byte ahead", v, append([]byte{0}, b...), api.ErrForm)
		}
	}
}

// P15.2, P15.3: each byte changed: refused, or another group, whose bytes these are.
func TestDecodeEachByte(t *testing.T) {
	for _, x := range fours() {
		b := bytesOf(x.least, x.g)
		taken, refused := 0, 0
		for at := range b {
			for _, by := range []byte{1, 2, 4, 8, 16, 32, 64, 128, 255, 3} {
				b[at] ^= by
				if isAsModel(t, x.what+", changed", x.least, b) {
					taken++
				} else {
					refused++
				}
				b[at] ^= by
			}
		}
		if taken < 1000 || refused < 500 {
			t.Errorf("%s: %d taken, %d refused", x.what, taken, refused)
		}
	}
}

// P15.2: each byte left out, each one told twice.
func TestDecodeEachByteGone(t *testing.T) {
	for _, x := range fours() {
		b := bytesOf(x.least, x.g)
		for at := range b {
			isRefused(t, x.what+", without one", x.least, append(bytes.Clone(b[:at]), b[at+1:]...), api.ErrForm)
			isRefused(t, x.what+", with one twice", x.least, append(bytes.Clone(b[:at+1]), b[at:]...), api.ErrForm)
		}
	}
}

// wronged is a group's bytes in a version, with lengths and counts told as is asked.
func wronged(v int, g api.Group, w writer) ([]byte, int, int) {
	w.group(v, g)
	return w.Bytes(), w.lens, w.counts
}

// P15.2: each length, of each row, told in more bytes than it needs.
func TestDecodeNeedless(t *testing.T) {
	for _, x := range fours() {
		for v := x.least; v <= 4; v++ {
			_, lens, _ := wronged(v, x.g, writer{})
			for at := range lens {
				for _, wide := range []int{2, 4} {
					b, _, _ := wronged(v, x.g, writer{long: map[int]int{at: wide}})
					if bytes.Equal(b, bytesOf(v, x.g)) {
						continue // it needs as many
					}
					isRefused(t, x.what+", a length in more bytes", v, b, api.ErrForm)
				}
			}
		}
	}
}

// P15.2: more, or fewer, of something told than there is: of each row's bytes, of each list's elements; by one, by some, by as many as can be told.
func TestDecodeMoreThanThereIs(t *testing.T) {
	for _, x := range fours() {
		for v := x.least; v <= 4; v++ {
			_, lens, counts := wronged(v, x.g, writer{})
			if v > 2 && counts < 3+5+4+1 || lens < 20 {
				t.Fatal(lens, counts)
			}
			for at := range lens {
				for _, n := range []int{1, 2, 31, 32, 500, 16000, 16383, 1<<20 - 1, 1 << 20, 1<<30 - 101, -1} {
					b, _, _ := wronged(v, x.g, writer{moreBytes: map[int]int{at: n}})
					isAsModel(t, x.what+", another length", v, b)
				}
			}
			for at := range counts {
				for _, n := range []int{1, 2, 3, 127, 250, 255, 256, 1000, 65000, 65535, -1, -2} {
					b, _, _ := wronged(v, x.g, writer{more: map[int]int{at: n}})
					isAsModel(t, x.what+", another count", v, b)
				}
			}
		}
	}
	// Nothing but counts that tell of as many as can be.
	for _, v := range versions {
		for n := range 40 {
			b := append(make([]byte, 1+n%8), bytes.Repeat([]byte{255}, n)...)
			isRefused(t, "counts", v, b, api.ErrForm)
			isRefused(t, "counts, and zeros", v, append(b, make([]byte, 200000)...), api.ErrForm)
		}
	}
}

// spoilt is a group with something changed; want tells whether it is right then, too.
type spoilt struct {
	what string
	want bool
	do   func(g *api.Group)
}

// wrongs are changes of a group of four leaves, with all that a group may have.
func wrongs() []spoilt {
	l := []spoilt{
		{"an Id of 256", false, func(g *api.Group) { g.Id = counted(256, 0) }},
		{"an Id of 255", true, func(g *api.Group) { g.Id = counted(255, 0) }},
		{"the last epoch", true, func(g *api.Group) { g.Epoch = lastEpoch }},
		{"an epoch more", false, func(g *api.Group) { g.Epoch = lastEpoch + 1 }},
		{"no tree", false, func(g *api.Group) { g.Tree = nil }},
		{"a node less", false, func(g *api.Group) { g.Tree = g.Tree[:6] }},
		{"half the tree", false, func(g *api.Group) { g.Tree = g.Tree[:3] }},
		{"a node more", false, func(g *api.Group) { g.Tree = append(g.Tree, api.Node{}) }},
		{"twice the tree", false, func(g *api.Group) { g.Tree = append(g.Tree, make([]api.Node, 8)...) }},
		{"twice the tree, and as many chains", true, func(g *api.Group) {
			g.Tree, g.Chain = append(g.Tree, make([]api.Node, 8)...), append(g.Chain, g.Chain...)
		}},
		{"a tree of 128", false, func(g *api.Group) {
			g.Tree = append(g.Tree, make([]api.Node, 248)...)
			for len(g.Chain) < 128 {
				g.Chain = append(g.Chain, g.Chain[0])
			}
		}},
		{"a kind", false, func(g *api.Group) { g.Tree[2].Kind = api.Parent }},
		{"a leaf above", false, func(g *api.Group) { g.Tree[5].Kind = api.Leaf }},
		{"a third kind", false, func(g *api.Group) { g.Tree[2].Kind = 3 }},
		{"the last kind", false, func(g *api.Group) { g.Tree[2].Kind = 255 }},
		{"a name twice", false, func(g *api.Group) { g.Tree[2].Name = 258 }},
		{"a named Parent", false, func(g *api.Group) { g.Tree[5].Name = 1 }},
		{"a half of 31", false, func(g *api.Group) { g.Tree[2].Pub = g.Tree[2].Pub[:31] }},
		{"a half of 33", false, func(g *api.Group) { g.Tree[2].Pub = counted(33, 1) }},
		{"no half", false, func(g *api.Group) { g.Tree[2].Pub = nil }},
		{"a Hash of 31", false, func(g *api.Group) { g.Tree[0].Hash = g.Tree[0].Hash[:31] }},
		{"no Hash", true, func(g *api.Group) { g.Tree[0].Hash = nil }},
		{"a leaf with Un", false, func(g *api.Group) { g.Tree[2].Un = []int{1} }},
		{"an Un more", false, func(g *api.Group) { g.Tree[5].Un = []int{2, 3} }},
		{"an Un twice", false, func(g *api.Group) { g.Tree[5].Un = []int{3, 3} }},
		{"an Un of another one", false, func(g *api.Group) { g.Tree[5].Un = []int{0} }},
		{"the last Un", false, func(g *api.Group) { g.Tree[5].Un = []int{65535} }},
		{"no Un", true, func(g *api.Group) { g.Tree[5].Un = nil }},
		{"another member", false, func(g *api.Group) { g.Me = 1 }},
		{"a Blank member", false, func(g *api.Group) { g.Me = 2 }},
		{"no member", false, func(g *api.Group) { g.Me = 4 }},
		{"the last member", false, func(g *api.Group) { g.Me = 65535 }},
		{"no seeds", false, func(g *api.Group) { g.Own = nil }},
		{"a seed less", false, func(g *api.Group) { g.Own = g.Own[:1] }},
		{"without its own seed", false, func(g *api.Group) { g.Own = g.Own[1:] }},
		{"another seed", false, func(g *api.Group) { g.Own[1].Seed = counted(32, 1) }},
		{"a seed of 31", false, func(g *api.Group) { g.Own[0].Seed = g.Own[0].Seed[:31] }},
		{"seeds turned round", false, func(g *api.Group) { g.Own[0], g.Own[1] = g.Own[1], g.Own[0] }},
		{"a seed twice", false, func(g *api.Group) { g.Own = append(g.Own, g.Own[1]) }},
		{"a seed of a Blank node", false, func(g *api.Group) { g.Own = append(g.Own, api.Seed{Node: 3, Seed: counted(32, 1)}) }},
		{"a seed of no node", false, func(g *api.Group) { g.Own = append(g.Own, api.Seed{Node: 65535, Seed: counted(32, 1)}) }},
		{"no chains", false, func(g *api.Group) { g.Chain = nil }},
		{"a chain less", false, func(g *api.Group) { g.Chain = g.Chain[:3] }},
		{"a chain more", false, func(g *api.Group) { g.Chain = append(g.Chain, g.Chain[0]) }},
		{"the last place", true, func(g *api.Group) { g.Chain[0].Next = lastPlace }},
		{"a place more", false, func(g *api.Group) { g.Chain[0].Next = lastPlace + 1 }},
		{"a chain of 31", false, func(g *api.Group) { g.Chain[0].Secret = counted(31, 1) }},
		{"no chain", false, func(g *api.Group) { g.Chain[0] = api.Chain{} }},
		{"32 spares", true, func(g *api.Group) {
			g.Chain[0] = api.Chain{Next: 40, Secret: counted(32, 1), Spare: manySpares(32, 39)}
		}},
		{"33 spares", false, func(g *api.Group) {
			g.Chain[0] = api.Chain{Next: 40, Secret: counted(32, 1), Spare: manySpares(33, 39)}
		}},
		{"255 spares", false, func(g *api.Group) {
			g.Chain[0] = api.Chain{Next: 400, Secret: counted(32, 1), Spare: manySpares(255, 399)}
		}},
		{"a spare behind", false, func(g *api.Group) { g.Chain[1].Spare[1].At = 5 }},
		{"the last spare", true, func(g *api.Group) { g.Chain[1].Spare[1].At = 4 }},
		{"a spare twice", false, func(g *api.Group) { g.Chain[1].Spare[1].At = 0 }},
		{"a spare's key of 31", false, func(g *api.Group) { g.Chain[1].Spare[0].Key = counted(31, 1) }},
		{"a spare's key of 16", false, func(g *api.Group) { g.Chain[1].Spare[0].Key = counted(16, 1) }},
		{"a spare's nonce of 13", false, func(g *api.Group) { g.Chain[3].Spare[0].Nonce = counted(13, 1) }},
		{"a spare's nonce of none", false, func(g *api.Group) { g.Chain[3].Spare[0].Nonce = nil }},
		{"100 shared secrets", true, func(g *api.Group) { g.Psk = manyPsk(100, 99, 1) }},
		{"101 shared secrets", false, func(g *api.Group) { g.Psk = manyPsk(101, 100, 1) }},
		{"shared secrets turned round", false, func(g *api.Group) { g.Psk[0], g.Psk[1] = g.Psk[1], g.Psk[0] }},
		{"a shared secret twice", false, func(g *api.Group) { g.Psk[1].Id = 0 }},
		{"an empty shared secret", false, func(g *api.Group) { g.Psk[1].Secret = nil }},
		{"a shared secret of 64", true, func(g *api.Group) { g.Psk[1].Secret = counted(64, 1) }},
		{"a shared secret of 65", false, func(g *api.Group) { g.Psk[1].Secret = counted(65, 1) }},
	}
	secrets := func(g *api.Group) []*[]byte {
		return []*[]byte{&g.Log, &g.Sec.Init, &g.Sec.Send, &g.Sec.Export, &g.Sec.Confirm, &g.Sec.Resume}
	}
	for k := range 6 {
		for n, want := range map[int]bool{0: false, 1: false, 31: false, 32: true, 33: false, 64: false} {
			l = append(l, spoilt{"a secret, or the log", want, func(g *api.Group) { *secrets(g)[k] = counted(n, 5) }})
		}
	}
	return l
}

// P15.2: bytes of a group that isn't right are refused; those of one that is, next to it, aren't.
func TestDecodeNotRight(t *testing.T) {
	for _, x := range wrongs() {
		g := ofFour(true, true, 1<<32+9)
		x.do(&g)
		b := bytesOf(4, g)
		if x.want {
			isDecoded(t, x.what, 4, b, g)
		} else {
			isRefused(t, x.what, 4, b, api.ErrForm)
		}
		if g.Epoch >= 1<<33 {
			continue
		}
		g.Epoch = 9
		if b = bytesOf(3, g); x.want {
			isDecoded(t, x.what, 3, b, g)
		} else {
			isRefused(t, x.what, 3, b, api.ErrForm)
		}
	}
}

// P15.2: what is Blank has a byte alone, and no part of what another node has.
func TestDecodeBlank(t *testing.T) {
	g := ofFour(false, false, 9)
	b := bytesOf(1, g)
	// Behind the Id, the epoch, how many nodes there are, and three of them.
	three := len(bytesOf(1, api.Group{Tree: g.Tree[:3]})) - len(bytesOf(1, api.Group{}))
	at := 2 + 70 + 4 + 2 + three
	if b[at] != 0 || b[at+1] != 0 || b[at+2] != api.Parent {
		t.Fatal(b[at : at+3])
	}
	for _, more := range [][]byte{{0, 0, 0, 0, 0, 0}, {0, 0}, {0}, {0, 0, 0}, {0, 0, 0, 0}} {
		isRefused(t, "more of a Blank node", 1, append(append(bytes.Clone(b[:at+1]), more...), b[at+1:]...), api.ErrForm)
	}
}

// P15.2: the bytes of one version, read in another one, are those of no group.
func TestDecodeOtherVersion(t *testing.T) {
	for _, x := range samples(t) {
		for v := x.least; v <= 4; v++ {
			b := bytesOf(v, x.g)
			for _, other := range versions {
				if other != v {
					isRefused(t, x.what+", in another version", other, b, api.ErrForm)
				}
			}
		}
	}
}
