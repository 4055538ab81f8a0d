package aes_test

import (
	library "crypto/aes"
	"crypto/cipher"
	"encoding/binary"
	"slices"
	"testing"

	"pyx/aes"
)

// streamLengths are those of bytes about the edges of blocks, and of what a block's place has in its lower bytes.
var streamLengths = []int{0, 1, 2, 11, 12, 13, 15, 16, 17, 31, 32, 33, 47, 48, 49, 64, 100, 255, 256, 257, 1000, 4079, 4080, 4081, 4095, 4096, 4097, 4112, 4113, 10000}

// nonces are some, of 12 bytes; if their bytes' end were counted, those of ff would go round.
func nonces() [][]byte {
	full := slices.Repeat([]byte{0xff}, 12)
	return [][]byte{make([]byte, 12), full, filled(12), filled(90)[78:], append(make([]byte, 11), 1), append([]byte{1}, make([]byte, 11)...)}
}

// streamedElsewhere is bytes as the library's stream has them, that counts from 1.
func streamedElsewhere(t *testing.T, key, nonce, b []byte) []byte {
	t.Helper()
	c, err := library.NewCipher(key)
	if err != nil {
		t.Fatal(err)
	}
	out := make([]byte, len(b))
	cipher.NewCTR(c, slices.Concat(nonce, []byte{0, 0, 0, 1})).XORKeyStream(out, b)
	return out
}

// isStream asks that Stream answers what the library has.
func isStream(t *testing.T, key, nonce, b []byte) {
	t.Helper()
	got, e := aes.Stream(key, nonce, b)
	isRow(t, got, e, streamedElsewhere(t, key, nonce, b))
}

// P5.4: streams that RFC 3686 tells, whose nonce is followed by eight bytes more.
func TestStreamAsToldElsewhere(t *testing.T) {
	for _, x := range [][4]string{
		{"ae6852f8121067cc4bf7a5765577f39e", "00000030" + "0000000000000000", "53696e676c6520626c6f636b206d7367", "e4095d4fb7a7b3792d6175a3261311b8"},
		{"7e24067817fae0d743d6ce1f32539163", "006cb6db" + "c0543b59da48d90b", "000102030405060708090a0b0c0d0e0f101112131415161718191a1b1c1d1e1f", "5104a106168a72d9790d41ee8edad388eb2e1efc46da57c8fce630df9141be28"},
		{"7691be035e5020a8ac6e618529f9a0dc", "00e0017b" + "27777f3f4a1786f0", "000102030405060708090a0b0c0d0e0f101112131415161718191a1b1c1d1e1f20212223", "c1cf48a89f2ffdd9cf4652e9efdb72d74540a42bde6d7836d59a5ceaaef3105325b2072f"},
	} {
		got, e := aes.Stream(unhex(t, x[0]), unhex(t, x[1]), unhex(t, x[2]))
		isRow(t, got, e, unhex(t, x[3]))
	}
}

// P5.4: by the document's words: as many bytes of blocks as there are, one behind the other; the first one's place is 1.
func TestStreamByBlocks(t *testing.T) {
	key := filled(16)
	for _, nonce := range nonces() {
		var all []byte
		for i := uint32(1); len(all) < 10000; i++ {
			block, _ := aes.Block(key, binary.BigEndian.AppendUint32(slices.Clone(nonce), i))
			all = append(all, block...)
		}
		for _, n := range streamLengths {
			want := filled(n)
			for i := range want {
				want[i] ^= all[i]
			}
			got, e := aes.Stream(key, nonce, filled(n))
			isRow(t, got, e, want)
			got, e = aes.Stream(key, nonce, make([]byte, n))
			isRow(t, got, e, all[:n])
		}
	}
}

// P5.4: of keys, nonces and counts of bytes, as the library has them.
func TestStream(t *testing.T) {
	for _, nonce := range nonces() {
		for _, n := range streamLengths {
			isStream(t, filled(16), nonce, filled(n))
		}
		for _, key := range keys() {
			isStream(t, key, nonce, filled(49))
		}
	}
	for n := range 100 {
		isStream(t, filled(16), filled(12), filled(n))
	}
}

// P5.4: of no bytes none are made, of any key and nonce.
func TestStreamOfNoBytes(t *testing.T) {
	for _, b := range [][]byte{nil, {}} {
		for _, nonce := range nonces() {
			got, e := aes.Stream(filled(16), nonce, b)
			isRow(t, got, e, nil)
		}
	}
}

// P5.4: more blocks than two bytes of a place tell.
func TestStreamOfManyBlocks(t *testing.T) {
	for _, n := range []int{1<<20 - 16, 1 << 20, 1<<20 + 1, 1<<20 + 33} {
		isStream(t, filled(16), filled(12), filled(n))
	}
}

// P5.4: more blocks than three bytes of a place tell.
func TestStreamOfMostBlocks(t *testing.T) {
	if testing.Short() {
		t.Skip("half a gigabyte, some eight seconds")
	}
	isStream(t, filled(16), filled(12), make([]byte, 1<<28+17))
}

// P5.4: keys of another count of bytes than 16, and nonces of another one than 12, whatever is to be locked.
func TestStreamRefuses(t *testing.T) {
	for _, many := range []int{0, 1, 12, 16, 100} {
		for _, n := range wrongCounts(16) {
			got, e := aes.Stream(filled(n), filled(12), filled(many))
			isRefused(t, got, e)
		}
		for _, n := range wrongCounts(12) {
			got, e := aes.Stream(filled(16), filled(n), filled(many))
			isRefused(t, got, e)
		}
		for _, x := range [][2][]byte{{nil, nil}, {nil, filled(12)}, {filled(16), nil}, {filled(12), filled(16)}, {filled(15), filled(13)}, {filled(17), filled(11)}} {
			got, e := aes.Stream(x[0], x[1], filled(many))
			isRefused(t, got, e)
		}
	}
}

// P5.5: the stream of a stream is the bytes.
func TestStreamOfStream(t *testing.T) {
	for _, nonce := range nonces() {
		for _, n := range streamLengths {
			once, e := aes.Stream(filled(16), nonce, filled(n))
			if n > 15 && string(once) == string(filled(n)) {
				t.Errorf("%d bytes: as they were", n)
			}
			twice, f := aes.Stream(filled(16), nonce, once)
			isRow(t, twice, max(e, f), filled(n))
		}
	}
}

// P5.4: another key or nonce makes other blocks, and no block comes twice.
func TestStreamTellsArguments(t *testing.T) {
	seen := map[string]int{}
	many := 0
	for _, key := range keys()[:131] {
		for _, nonce := range nonces() {
			b, _ := aes.Stream(key, nonce, make([]byte, 16*16))
			for block := range slices.Chunk(b, 16) {
				seen[string(block)]++
				many++
			}
		}
	}
	if len(seen) != many || many != 131*6*16 {
		t.Errorf("%d blocks; want %d", len(seen), many)
	}
}
