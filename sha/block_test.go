package sha_test

import (
	"bytes"
	"crypto/sha256"
	"encoding"
	"encoding/binary"
	"math/rand/v2"
	"testing"

	"pyx/api"
	"pyx/sha"
)

// wordsBehind are h behind a block, as the library has it: its digest is laid into the state h, and fed the block.
func wordsBehind(t *testing.T, h [8]uint32, block []byte) [8]uint32 {
	t.Helper()
	state := binary.BigEndian.AppendUint64(append(stateOf(h), make([]byte, 64)...), 0)
	d := sha256.New()
	if err := d.(encoding.BinaryUnmarshaler).UnmarshalBinary(state); err != nil {
		t.Fatal(err)
	}
	d.Write(block)
	state, err := d.(encoding.BinaryMarshaler).MarshalBinary()
	if err != nil {
		t.Fatal(err)
	}
	var out [8]uint32
	for i := range out {
		out[i] = binary.BigEndian.Uint32(state[4+4*i:])
	}
	return out
}

// stateOf is how a state of the library's digest begins.
func stateOf(h [8]uint32) []byte {
	b := []byte("sha\x03")
	for _, x := range h {
		b = binary.BigEndian.AppendUint32(b, x)
	}
	return b
}

// isBlock asks that Block answers the words that the library has.
func isBlock(t *testing.T, h [8]uint32, block []byte) {
	t.Helper()
	want := wordsBehind(t, h, block)
	if got, e := sha.Block(h, block); e != api.OK || got != want {
		t.Fatalf("Block(%08x, %x): %08x, %d; want %08x", h, block, got, e, want)
	}
}

// P2.3: behind a block that has one bit, wherever that stands, from words that have one, or all, or those of Start.
func TestBlockOfOneBit(t *testing.T) {
	states := [][8]uint32{{}, sha.Start()}
	var all [8]uint32
	for i := range all {
		all[i] = 1<<32 - 1
		for bit := range 32 {
			var one [8]uint32
			one[i] = 1 << bit
			states = append(states, one)
		}
	}
	for _, h := range append(states, all) {
		isBlock(t, h, make([]byte, 64))
		isBlock(t, h, bytes.Repeat([]byte{0xff}, 64))
	}
	for bit := range 512 {
		block := make([]byte, 64)
		block[bit/8] = 1 << (bit % 8)
		isBlock(t, sha.Start(), block)
		isBlock(t, [8]uint32{}, block)
		isBlock(t, all, block)
	}
}

// P2.3: behind blocks of any bytes, from any words.
func TestBlockOfAnyBytes(t *testing.T) {
	r := rand.New(rand.NewPCG(2, 3))
	for range 2000 {
		var h [8]uint32
		for i := range h {
			h[i] = r.Uint32()
		}
		block := make([]byte, 64)
		for i := range block {
			block[i] = byte(r.Uint32())
		}
		isBlock(t, h, block)
	}
}

// P2.3: the words behind the block of abc, and behind the two of FIPS 180-4's second example.
func TestBlockByBlock(t *testing.T) {
	block := append([]byte("abc"), sha.Pad(3)...)
	h, e := sha.Block(sha.Start(), block)
	if want := [8]uint32{0xba7816bf, 0x8f01cfea, 0x414140de, 0x5dae2223, 0xb00361a3, 0x96177a9c, 0xb410ff61, 0xf20015ad}; e != api.OK || h != want {
		t.Errorf("abc: %08x, %d; want %08x", h, e, want)
	}
	two := append([]byte("abcdbcdecdefdefgefghfghighijhijkijkljklmklmnlmnomnopnopq"), sha.Pad(56)...)
	h, e = sha.Block(sha.Start(), two[:64])
	if want := [8]uint32{0x85e655d6, 0x417a1795, 0x3363376a, 0x624cde5c, 0x76e09589, 0xcac5f811, 0xcc4b32c1, 0xf20e533a}; e != api.OK || h != want {
		t.Errorf("the first block: %08x, %d; want %08x", h, e, want)
	}
	h, e = sha.Block(h, two[64:])
	if want := [8]uint32{0x248d6a61, 0xd20638b8, 0xe5c02693, 0x0c3e6039, 0xa33ce459, 0x64ff2167, 0xf6ecedd4, 0x19db06c1}; e != api.OK || h != want {
		t.Errorf("the second block: %08x, %d; want %08x", h, e, want)
	}
}

// P2.3: what hasn't 64 bytes is no block: the words are what they were, whatever lies behind in the same memory.
func TestNoBlock(t *testing.T) {
	wrong := [][]byte{nil, {}}
	for n := range 300 {
		if n != 64 {
			wrong = append(wrong, make([]byte, n), make([]byte, n, 1024))
		}
	}
	for _, h := range [][8]uint32{{}, {1}, {0, 0, 0, 0, 0, 0, 0, 1}, {1, 2, 3, 4, 5, 6, 7, 8}, sha.Start()} {
		for _, b := range wrong {
			if got, e := sha.Block(h, b); e != api.ErrArg || got != h {
				t.Errorf("Block(%08x, %d bytes): %08x, %d; want ErrArg and the same", h, len(b), got, e)
			}
		}
	}
}
