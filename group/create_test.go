package group_test

import (
	"bytes"
	"testing"

	"pyx/api"
	"pyx/group"
)

// isCreated asks that a group of one is made, as the model has it, and that it is right.
func isCreated(t *testing.T, id []byte, name int, seed, secret []byte) {
	t.Helper()
	g, e := group.Create(id, name, seed, secret)
	if e != api.OK || told(g) != told(createdOf(id, name, seed, secret)) {
		t.Errorf("%x, %d: error %d, %s; want %s", id, name, e, told(g), told(createdOf(id, name, seed, secret)))
	}
	if !group.Right(g) {
		t.Errorf("%x, %d: not right: %s", id, name, told(g))
	}
}

// isNotCreated asks that nothing is made, and ErrArg told.
func isNotCreated(t *testing.T, id []byte, name int, seed, secret []byte) {
	t.Helper()
	g, e := group.Create(id, name, seed, secret)
	if e != api.ErrArg || told(g) != told(api.Group{}) {
		t.Errorf("%d bytes, %d, %d and %d bytes: error %d, %s; want ErrArg, and nothing", len(id), name, len(seed), len(secret), e, told(g))
	}
}

// P14.1: a group of one, of each part that may be another one.
func TestCreate(t *testing.T) {
	isCreated(t, []byte("id"), 1, seedAt(1), seedAt(2))
	isCreated(t, []byte("id"), 1, seedAt(1), seedAt(1))
	isCreated(t, []byte("di"), 1, seedAt(1), seedAt(2))
	isCreated(t, []byte("id"), 2, seedAt(1), seedAt(2))
	isCreated(t, []byte("id"), 1, make([]byte, 32), bytes.Repeat([]byte{0xff}, 32))
	for _, n := range []int{0, 1, 63, 64, 254, 255} {
		isCreated(t, counted(n, 7), 1, seedAt(1), seedAt(2))
	}
	isCreated(t, nil, 1, seedAt(1), seedAt(2))
	for _, name := range []int{0, 1, 255, 256, 65534, 65535} {
		isCreated(t, []byte("id"), name, seedAt(3), seedAt(4))
	}
}

// P14.1: what a group of one has, told by numbers.
func TestCreatedParts(t *testing.T) {
	g, _ := group.Create([]byte("id"), 7, seedAt(1), seedAt(2))
	if g.Epoch != 0 || g.Me != 0 || len(g.Tree) != 1 || len(g.Own) != 1 || g.Own[0].Node != 0 || len(g.Chain) != 1 || g.Chain[0].Next != 0 || len(g.Psk) != 0 || !bytes.Equal(g.Log, make([]byte, 32)) {
		t.Error(told(g))
	}
	if n := g.Tree[0]; n.Kind != api.Leaf || n.Name != 7 || len(n.Hash) != 0 || !bytes.Equal(n.Pub, publicOf(seedAt(1))) {
		t.Error(told(g.Tree))
	}
}

// P14.1: what may not be: an id that is too long, names about the edges, and seeds and secrets that have not 32 bytes.
func TestCreateRefuses(t *testing.T) {
	for _, n := range []int{256, 257, 511, 65536 + 3} {
		isNotCreated(t, make([]byte, n), 1, seedAt(1), seedAt(2))
	}
	for _, name := range []int{-1, 65536, 65537, least, least + 1, greatest, 1 << 32, -65536} {
		isNotCreated(t, []byte("id"), name, seedAt(1), seedAt(2))
	}
	for _, n := range wrongLengths {
		isNotCreated(t, []byte("id"), 1, make([]byte, n), seedAt(2))
		isNotCreated(t, []byte("id"), 1, seedAt(1), make([]byte, n))
		isNotCreated(t, make([]byte, 256), -1, make([]byte, n), make([]byte, n))
	}
	isNotCreated(t, nil, 0, nil, nil)
}
