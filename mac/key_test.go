package mac_test

import (
	"bytes"
	"crypto/sha256"
	"testing"

	"pyx/mac"
)

// filled is n bytes, none of them 00; a piece of 64 is another one than that ahead of it.
func filled(n int) []byte {
	b := make([]byte, n)
	for i := range b {
		b[i] = byte((i*167+i/64*31)%255 + 1)
	}
	return b
}

// P3.1: the block of 1, 2.
func TestKeyOfTwoBytes(t *testing.T) {
	want := append([]byte{1, 2}, make([]byte, 62)...)
	if got := mac.Key([]byte{1, 2}); !bytes.Equal(got, want) {
		t.Errorf("%x; want %x", got, want)
	}
}

// P3.1: a key of at most 64 bytes stands in its block as it is, and bytes 00 behind it.
func TestKeyThatFits(t *testing.T) {
	if got := mac.Key(nil); !bytes.Equal(got, make([]byte, 64)) {
		t.Errorf("of nil: %x", got)
	}
	for n := range 65 {
		key := filled(n)
		want := append(filled(n), make([]byte, 64-n)...)
		if got := mac.Key(key); !bytes.Equal(got, want) {
			t.Errorf("of %d bytes: %x; want %x", n, got, want)
		}
		// What lies behind the key in the same memory is none of it.
		if got := mac.Key(filled(200)[:n]); !bytes.Equal(got, want) {
			t.Errorf("of %d bytes ahead of others: %x; want %x", n, got, want)
		}
	}
}

// P3.1: of a key of more than 64 bytes the digest stands there; of 64 it doesn't, of 65 it does.
func TestKeyThatDoesNotFit(t *testing.T) {
	lengths := []int{1 << 10, 1<<16 + 1}
	for n := 65; n < 300; n++ {
		lengths = append(lengths, n)
	}
	for _, n := range lengths {
		digest := sha256.Sum256(filled(n))
		want := append(digest[:], make([]byte, 32)...)
		if got := mac.Key(filled(n)); !bytes.Equal(got, want) {
			t.Errorf("of %d bytes: %x; want %x", n, got, want)
		}
		if got := mac.Key(make([]byte, n)); bytes.Equal(got, make([]byte, 64)) {
			t.Errorf("of %d bytes 00: no digest", n)
		}
	}
}

// P3.1: a block is the key's own block.
func TestKeyOfKey(t *testing.T) {
	for _, n := range []int{0, 1, 63, 64, 65, 200} {
		block := mac.Key(filled(n))
		if got := mac.Key(block); !bytes.Equal(got, block) {
			t.Errorf("of the block of %d bytes: %x; want %x", n, got, block)
		}
	}
}
