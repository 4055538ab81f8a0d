package ratch_test

import (
	"bytes"
	"testing"

	"pyx/api"
	"pyx/ratch"
)

// sizes are how many leaves a tree may have.
func sizes() []int { return []int{1, 2, 4, 8, 16, 32, 64, 128, 256, 512, 1024} }

// wrongSizes are such as no tree has: powers of 2 among them, and such whose lowest bits are those of one.
func wrongSizes() []int {
	return []int{-1, 0, 3, 5, 6, 7, 9, 1022, 1023, 1025, 2047, 2048, 4096, 1 << 16, 1<<16 + 4, 1 << 32, 1<<32 + 4, 1 << 62, 1<<62 + 4, -2, -4, -1024, greatest, least, least + 4}
}

// isLeaf asks that a leaf has that secret, and that its chain begins with it.
func isLeaf(t *testing.T, send []byte, n, i int, want []byte) {
	t.Helper()
	secret, e := ratch.Leaf(send, n, i)
	if e != api.OK || !bytes.Equal(secret, want) {
		t.Errorf("leaf %d of %d: %d, %x; want %x", i, n, e, secret, want)
	}
	c, e := ratch.Start(send, n, i)
	if e != api.OK || told(c) != told(api.Chain{Next: 0, Secret: want}) || !ratch.Right(c) {
		t.Errorf("chain of leaf %d of %d: %d, %s; want that of %x, right", i, n, e, told(c), want)
	}
}

// isNoLeaf asks that a leaf is refused, and that nothing comes but the error.
func isNoLeaf(t *testing.T, send []byte, n, i int) {
	t.Helper()
	secret, e := ratch.Leaf(send, n, i)
	if e != api.ErrArg || secret != nil {
		t.Errorf("leaf %d of %d, of %d bytes: %d, %x; want ErrArg, none", i, n, len(send), e, secret)
	}
	c, e := ratch.Start(send, n, i)
	if e != api.ErrArg || c.Next != 0 || c.Secret != nil || c.Spare != nil {
		t.Errorf("chain of leaf %d of %d, of %d bytes: %d, %s; want ErrArg, none", i, n, len(send), e, told(c))
	}
}

// P13.1: secrets of leaves, that are reckoned elsewhere.
func TestLeafToldElsewhere(t *testing.T) {
	for _, x := range []struct {
		n, i int
		want string
	}{
		{1, 0, "ea928bdd8d66e5ee78caba7dd06cb5c9f85a65aa970f4a07fff5afbf645dcaba"},
		{2, 0, "9db308a0b66ae008021d324905937527961c897cd7e0ba45b1409e5fbffa1508"},
		{2, 1, "e8a35671d5340d94b1a0c332b134a79af9417c510a14ef3176a2f01c94bdcfc5"},
		{4, 1, "756181d7fe7c10e5267158c90e6ec782b3a3404336a43cf04e45f343a3419077"},
		{8, 5, "b094f4bcf423861345c11770c05a5d333faceca9604bcbc43982c1b4595f71de"},
		{64, 40, "8a2e944f0ad25a0958184751c3c7de639f9aed1746d7a8a3ce0b6f6604c90d43"},
		{1024, 0, "c0ff81b85063c6e8a5ee18c98a0fa98870e3c5864de76ede517066d8440c458a"},
		{1024, 682, "767cda92c71d8615179b5c8628d9650843106fc22fdf7776e8ee2cb37fb216aa"},
		{1024, 1023, "84891447e8bf3f6e59befad0ced2845761a9f11196b140aa0367fb3351f7097c"},
	} {
		isLeaf(t, counted(32, 1), x.n, x.i, unhex(t, x.want))
	}
	isLeaf(t, make([]byte, 32), 4, 2, unhex(t, "26c742ac56c1847e2ec782c215fc4250fc71533232832cc9e0092a8ccd6470f5"))
	isLeaf(t, bytes.Repeat([]byte{0xff}, 32), 1024, 511, unhex(t, "642d1300bde30170fbde4d8c2679bf4637889b63a49ca2c4cb0c2ab7b5c9fe26"))
}

// P13.1: all leaves of small trees, and the first and the last one, and some between, of each tree.
func TestLeaf(t *testing.T) {
	for _, send := range sends() {
		for _, n := range sizes() {
			for i := range min(n, 16) {
				isLeaf(t, send, n, i, leafOf(send, n, i))
				isLeaf(t, send, n, n-1-i, leafOf(send, n, n-1-i))
			}
			isLeaf(t, send, n, n/2, leafOf(send, n, n/2))
			isLeaf(t, send, n, n/3, leafOf(send, n, n/3))
		}
	}
}

// P13.1: the leaf of a tree of one is its root; it tells no other node's secret.
func TestLeafOfOne(t *testing.T) {
	for _, send := range sends() {
		isLeaf(t, send, 1, 0, labelOf(send, "tree", nil, 32))
	}
}

// P13.1: another leaf, another tree, or another byte of send makes another secret.
func TestLeavesDiffer(t *testing.T) {
	seen := map[string]int{}
	many := 0
	tell := func(send []byte, n, i int) {
		t.Helper()
		secret, e := ratch.Leaf(send, n, i)
		if e != api.OK || len(secret) != 32 {
			t.Errorf("leaf %d of %d: %d, %x", i, n, e, secret)
		}
		seen[string(secret)]++
		many++
	}
	for _, n := range sizes() {
		for i := range n {
			tell(counted(32, 1), n, i)
		}
	}
	for i := range 32 {
		for bit := range 8 {
			send := counted(32, 1)
			send[i] ^= 1 << bit
			tell(send, 8, 3)
		}
	}
	if len(seen) != many {
		t.Errorf("%d secrets; want %d", len(seen), many)
	}
}

// P13.1: a send of no byte, of 31, of 33, and of other numbers of them.
func TestLeafRefusesSends(t *testing.T) {
	for _, many := range wrongLengths {
		for _, n := range []int{1, 2, 8, 1024} {
			isNoLeaf(t, counted(many, 1), n, 0)
			isNoLeaf(t, counted(many, 1), n, n-1)
		}
	}
	isNoLeaf(t, nil, 1, 0)
	isNoLeaf(t, nil, 4, 1)
}

// P13.1: numbers of leaves that no tree has, whatever leaf is asked for.
func TestLeafRefusesSizes(t *testing.T) {
	for _, n := range wrongSizes() {
		for _, i := range []int{0, 1, 2, n - 1, n / 2, n, -1} {
			isNoLeaf(t, counted(32, 1), n, i)
		}
	}
}

// P13.1: leaves that there aren't: those beside the first and the last one, and such whose node, reckoned in words, would be a node.
func TestLeafRefusesPlaces(t *testing.T) {
	for _, n := range sizes() {
		for _, i := range []int{-1, -2, -n, n, n + 1, 2*n - 2, 2*n - 1, 2 * n, 1 << 32, 1 << 62, 1<<62 + n - 1, -1 << 62, least, least + n - 1, greatest} {
			// Of a tree of one leaf, 2 n - 2 is a leaf.
			if i != 0 {
				isNoLeaf(t, counted(32, 1), n, i)
			}
		}
	}
}

// P13.1: all that is wrong at the same time.
func TestLeafRefusesAll(t *testing.T) {
	for _, many := range wrongLengths {
		for _, n := range wrongSizes() {
			isNoLeaf(t, counted(many, 1), n, 0)
			isNoLeaf(t, counted(many, 1), n, -1)
			isNoLeaf(t, counted(many, 1), 8, n-8)
		}
	}
}
