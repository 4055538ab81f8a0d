package sha_test

import (
	"bytes"
	"crypto/sha256"
	"encoding/hex"
	"slices"
	"strings"
	"sync"
	"testing"

	"pyx/sha"
)

// filled is n bytes, no two blocks of which are the same.
func filled(n int) []byte {
	b := make([]byte, n)
	for i := range b {
		b[i] = byte(i*167 + i/64*31 + i>>14)
	}
	return b
}

// isSum asks that Sum answers the digest that the library has.
func isSum(t *testing.T, b []byte) {
	t.Helper()
	want := sha256.Sum256(b)
	if got := sha.Sum(b); !bytes.Equal(got, want[:]) {
		t.Errorf("of %d bytes: %x; want %x", len(b), got, want)
	}
}

// P2.5, P2.4: digests that are told elsewhere.
func TestSumsToldElsewhere(t *testing.T) {
	for s, want := range map[string]string{
		"":    "e3b0c44298fc1c149afbf4c8996fb92427ae41e4649b934ca495991b7852b855",
		"abc": "ba7816bf8f01cfea414140de5dae2223b00361a396177a9cb410ff61f20015ad",
		"abcdbcdecdefdefgefghfghighijhijkijkljklmklmnlmnomnopnopq":                                                         "248d6a61d20638b8e5c026930c3e6039a33ce45964ff2167f6ecedd419db06c1",
		"abcdefghbcdefghicdefghijdefghijkefghijklfghijklmghijklmnhijklmnoijklmnopjklmnopqklmnopqrlmnopqrsmnopqrstnopqrstu": "cf5b16a778af8380036ce59e7b0492370b249b11e8f07a51afac45037afee9d1",
		strings.Repeat("a", 1000000): "cdc76e5c9914fb9281a1c7e284d73e67f1809a48a497200e046d39ccc7112cd0",
	} {
		if got := sha.Sum([]byte(s)); hex.EncodeToString(got) != want {
			t.Errorf("of %.20q, %d bytes: %x; want %s", s, len(s), got, want)
		}
	}
	if got := sha.Sum(nil); hex.EncodeToString(got) != "e3b0c44298fc1c149afbf4c8996fb92427ae41e4649b934ca495991b7852b855" {
		t.Errorf("of nothing: %x", got)
	}
}

// P2.4: of any few bytes, about all edges of blocks, and of many.
func TestSum(t *testing.T) {
	all := filled(1 << 12)
	for n := range 5 * 64 {
		isSum(t, all[:n])
		isSum(t, make([]byte, n))
		isSum(t, bytes.Repeat([]byte{0xff}, n))
	}
	for at := 1; at < 64; at++ {
		isSum(t, all[at:])
		isSum(t, all[at:at+128])
	}
	for _, n := range []int{1<<16 - 1, 1 << 16, 1<<16 + 55, 1<<16 + 56, 1<<20 - 9, 1<<20 - 8, 1 << 20} {
		isSum(t, filled(n))
	}
}

// P2.4: the count of bits has more than 32 of them, from 2^29 bytes on.
func TestSumOfManyBytes(t *testing.T) {
	if testing.Short() {
		t.Skip("half a gigabyte")
	}
	b := make([]byte, 1<<29+1)
	copy(b, "pyx")
	isSum(t, b)
}

// P2.4: one byte that is another one, wherever it stands, makes another sum; so does a byte more, or less.
func TestSumTellsAllBytes(t *testing.T) {
	seen := map[string]int{}
	for n := range 130 {
		seen[string(sha.Sum(make([]byte, n)))]++
	}
	for at := range 130 {
		b := make([]byte, 130)
		b[at] = 1
		seen[string(sha.Sum(b))]++
	}
	if len(seen) != 260 {
		t.Errorf("%d sums; want 260", len(seen))
	}
}

// P2.4: a sum is the blocks, and what stands behind, gone through from Start on.
func TestSumIsOfBlocks(t *testing.T) {
	for _, n := range []int{0, 1, 55, 56, 63, 64, 65, 119, 120, 128, 500} {
		h := sha.Start()
		for block := range slices.Chunk(append(filled(n), sha.Pad(n)...), 64) {
			h, _ = sha.Block(h, block)
		}
		if got := sha.Sum(filled(n)); !bytes.Equal(got, stateOf(h)[4:]) {
			t.Errorf("of %d bytes: %x; want %08x", n, got, h)
		}
	}
}

// R3: what is handed in stays as it was, with what lies behind it in the same memory.
func TestHandedInStays(t *testing.T) {
	for _, n := range []int{0, 1, 55, 56, 63, 64, 65, 119, 120, 128} {
		own := filled(512)
		sha.Sum(own[:n])
		if !bytes.Equal(own, filled(512)) {
			t.Errorf("Sum of %d bytes wrote into them, or behind them", n)
		}
	}
	own, h := filled(512), sha.Start()
	sha.Block(h, own[:64])
	if !bytes.Equal(own, filled(512)) || h != sha.Start() {
		t.Error("Block wrote into what was handed in")
	}
}

// R3, R4: who writes into an answer, or into what was handed in, changes no other answer.
func TestNothingShared(t *testing.T) {
	own := []byte("abc")
	sum, pad, start := sha.Sum(own), sha.Pad(3), sha.Start()
	want := bytes.Clone(sum)
	clear(own)
	if !bytes.Equal(sum, want) {
		t.Error("the sum is another one, when what was handed in is")
	}
	clear(sum[:cap(sum)])
	clear(pad[:cap(pad)])
	clear(start[:])
	if !bytes.Equal(sha.Sum([]byte("abc")), want) || !bytes.Equal(sha.Pad(3), padding(3)) || sha.Start()[0] != 0x6a09e667 {
		t.Error("an answer is another one, when an earlier one is written into")
	}
}

// R4: what is asked at the same time is answered as what is asked alone.
func TestAtTheSameTime(t *testing.T) {
	var all sync.WaitGroup
	for n := range 64 {
		all.Go(func() {
			for range 20 {
				isSum(t, filled(n))
				if sha.Key(n) != printed[n] {
					t.Errorf("Key(%d)", n)
				}
			}
		})
	}
	all.Wait()
}
