package sha_test

import (
	"bytes"
	"encoding/binary"
	"math"
	"testing"

	"pyx/sha"
)

// longest is how many bytes Pad may stand behind, at the most.
const longest = 1 << 50

// padding is what stands behind n bytes, byte by byte.
func padding(n int) []byte {
	b := []byte{0x80}
	for (n+len(b)+8)%64 != 0 {
		b = append(b, 0)
	}
	return binary.BigEndian.AppendUint64(b, 8*uint64(n))
}

// P2.2: what stands behind any few bytes, and about the edges of blocks, of the number's bytes, and of what may be.
func TestPad(t *testing.T) {
	for n := range 1 << 12 {
		isPad(t, n)
	}
	for shift := 12; shift <= 50; shift++ {
		for off := -130; off <= 130; off++ {
			if n := 1<<shift + off; n <= longest {
				isPad(t, n)
			}
		}
	}
}

// isPad asks that Pad answers what stands behind n bytes.
func isPad(t *testing.T, n int) {
	t.Helper()
	if b := sha.Pad(n); !bytes.Equal(b, padding(n)) {
		t.Fatalf("Pad(%d): %x; want %x", n, b, padding(n))
	}
}

// P2.2: how many bytes there are at the edges that the document names: 55 bytes leave room in their block, 56 don't.
func TestPadCounts(t *testing.T) {
	for n, want := range map[int]int{0: 64, 1: 63, 54: 10, 55: 9, 56: 72, 57: 71, 63: 65, 64: 64, 65: 63, 118: 10, 119: 9, 120: 72, 127: 65, 128: 64, longest: 64, longest - 1: 65, longest - 8: 72, longest - 9: 9} {
		if b := sha.Pad(n); len(b) != want {
			t.Errorf("Pad(%d): %d bytes; want %d", n, len(b), want)
		}
	}
}

// P2.2: some, to the letter.
func TestPadBytes(t *testing.T) {
	for n, want := range map[int][]byte{
		55:      {0x80, 0, 0, 0, 0, 0, 0, 1, 0xb8},
		119:     {0x80, 0, 0, 0, 0, 0, 0, 3, 0xb8},
		0:       append([]byte{0x80}, make([]byte, 63)...),
		64:      append(append([]byte{0x80}, make([]byte, 61)...), 2, 0),
		56:      append(append([]byte{0x80}, make([]byte, 69)...), 1, 0xc0),
		longest: append(append([]byte{0x80}, make([]byte, 56)...), 0x20, 0, 0, 0, 0, 0, 0),
	} {
		if b := sha.Pad(n); !bytes.Equal(b, want) {
			t.Errorf("Pad(%d): %x; want %x", n, b, want)
		}
	}
}

// P2.2: nothing stands behind a count that may not be.
func TestNoPad(t *testing.T) {
	for _, n := range []int{-1, -2, -8, -9, -55, -56, -64, -longest, longest + 1, longest + 2, longest + 64, 1<<51 + 55, 1 << 60, 1 << 61, 1 << 62, math.MinInt, math.MinInt + 1, math.MinInt32, math.MaxInt, math.MaxInt - 8} {
		if b := sha.Pad(n); len(b) != 0 {
			t.Errorf("Pad(%d): %x; want none", n, b)
		}
	}
}
