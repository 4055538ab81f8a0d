package seal_test

import (
	"bytes"
	library "crypto/aes"
	"crypto/cipher"
	"crypto/hmac"
	"crypto/sha256"
	"slices"
	"testing"

	"pyx/aes"
	"pyx/api"
	"pyx/byt"
	"pyx/mac"
	"pyx/seal"
)

// plainLengths are those of bytes about the edges of blocks, and of what a place of a block has in a byte.
var plainLengths = []int{0, 1, 2, 15, 16, 17, 31, 32, 33, 47, 48, 49, 63, 64, 65, 100, 255, 256, 257, 1000, 4079, 4080, 4081, 4096, 4097}

// withLengths are those about the edges of a row's length, of a digest's block, and of a nonce.
var withLengths = []int{0, 1, 4, 11, 12, 13, 32, 51, 62, 63, 64, 65, 128, 16382, 16383, 16384, 16385}

// nonces are some, of 12 bytes.
func nonces() [][]byte {
	return [][]byte{make([]byte, 12), bytes.Repeat([]byte{0xff}, 12), filled(12), counted(12, 100), append(make([]byte, 11), 1), append([]byte{1}, make([]byte, 11)...)}
}

// headOf is a row's length, as the document's chapter of rows has it.
func headOf(t *testing.T, x []byte) []byte {
	t.Helper()
	switch n := len(x); {
	case n < 1<<6:
		return []byte{byte(n)}
	case n < 1<<14:
		return []byte{byte(n>>8) | 0x40, byte(n)}
	case n < 1<<30:
		return []byte{byte(n>>24) | 0x80, byte(n >> 16), byte(n >> 8), byte(n)}
	}
	t.Fatal("no length")
	return nil
}

// streamedElsewhere is bytes as the library's stream of a key's first half has them.
func streamedElsewhere(t *testing.T, key, nonce, b []byte) []byte {
	t.Helper()
	lock, _ := halvesElsewhere(t, key)
	c, err := library.NewCipher(lock)
	if err != nil {
		t.Fatal(err)
	}
	out := make([]byte, len(b))
	cipher.NewCTR(c, slices.Concat(nonce, []byte{0, 0, 0, 1})).XORKeyStream(out, b)
	return out
}

// taggedElsewhere is locked bytes, and behind them the library's tag of these under a key's second half.
func taggedElsewhere(t *testing.T, key, nonce, with, locked []byte) []byte {
	t.Helper()
	_, own := halvesElsewhere(t, key)
	h := hmac.New(sha256.New, own)
	h.Write(slices.Concat(headOf(t, with), with, nonce, locked))
	return h.Sum(bytes.Clone(locked))
}

// isSealed asks that Seal answers what the library has, and that Open takes it.
func isSealed(t *testing.T, key, nonce, with, b []byte) {
	t.Helper()
	sealed, e := seal.Seal(key, nonce, with, b)
	isRow(t, sealed, e, taggedElsewhere(t, key, nonce, with, streamedElsewhere(t, key, nonce, b)))
	opened, e := seal.Open(key, nonce, with, sealed)
	isRow(t, opened, e, b)
}

// P6.2: sealed bytes that were reckoned elsewhere.
func TestSealToldElsewhere(t *testing.T) {
	full := bytes.Repeat([]byte{0xff}, 32)
	for _, x := range []struct {
		key, nonce, with []byte
		b, want          string
	}{
		{counted(32, 1), counted(12, 100), []byte("with"), "the bytes that are sealed, two blocks", "cadf4394188aefd47e64056dcf1c0de9c40c92bd03301b9d6bf486c9d8a83b5ef8ee4afed3405912af832788aa40cb5043293833023c649bc0abb8bb79165ff7c3f1cb9873"},
		{counted(32, 1), counted(12, 100), nil, "", "28fb55c8e476f19691c5c5edc1ef640b2fecf22250e9f4b4b94317f7d3e022a2"},
		{make([]byte, 32), make([]byte, 12), nil, string(make([]byte, 16)), "5193d18f78ac8d9acf4014bc9545ceaa7461459d7b24817d5c3c78baf3e640c2db314759b97522a54f169f882c6822cc"},
		{full, full[:12], make([]byte, 64), "abc", "d64eab07edc6dc4339518e0d33b3473d24635657ce6984bc249b2e2ff79a900711d1e9"},
	} {
		got, e := seal.Seal(x.key, x.nonce, x.with, []byte(x.b))
		isRow(t, got, e, unhex(t, x.want))
		got, e = seal.Open(x.key, x.nonce, x.with, unhex(t, x.want))
		isRow(t, got, e, []byte(x.b))
	}
}

// P6.2: by the document's words, of the layers below: the stream, and the tag of the row, the nonce and the stream's bytes.
func TestSealByLayers(t *testing.T) {
	key := filled(32)
	for _, nonce := range nonces() {
		for _, n := range plainLengths {
			with, b := filled(n%70), filled(n)
			lock, own, _ := seal.Halves(key)
			locked, _ := aes.Stream(lock, nonce, b)
			row, _ := byt.Row(with)
			got, e := seal.Seal(key, nonce, with, b)
			isRow(t, got, e, slices.Concat(locked, mac.Sum(own, slices.Concat(row, nonce, locked))))
		}
	}
}

// P6.2, P6.3: of keys, nonces, what bytes belong to, and counts of them, as the library has it.
func TestSeal(t *testing.T) {
	for _, nonce := range nonces() {
		for _, n := range plainLengths {
			isSealed(t, filled(32), nonce, []byte("with"), filled(n))
		}
		for _, n := range withLengths {
			isSealed(t, filled(32), nonce, filled(n), filled(37))
			isSealed(t, filled(32), nonce, make([]byte, n), make([]byte, 16))
		}
	}
	for _, key := range keys() {
		isSealed(t, key, filled(12), filled(5), filled(33))
	}
	for n := range 130 {
		isSealed(t, filled(32), filled(12), filled(129-n), filled(n))
	}
	isSealed(t, filled(32), filled(12), filled(1<<17), filled(1<<20+5))
}

// P6.2: nothing sealed is 32 bytes; nothing that bytes belong to is a row too.
func TestSealOfNothing(t *testing.T) {
	for _, nothing := range [][]byte{nil, {}, filled(9)[9:]} {
		for _, nonce := range nonces() {
			for _, n := range withLengths {
				isSealed(t, filled(32), nonce, filled(n), nothing)
				if b, e := seal.Seal(filled(32), nonce, filled(n), nothing); e != api.OK || len(b) != 32 {
					t.Errorf("nothing sealed: %x, %d", b, e)
				}
			}
			for _, n := range plainLengths {
				isSealed(t, filled(32), nonce, nothing, filled(n))
			}
		}
	}
}

// P6.2: keys of another count of bytes than 32, and nonces of another one than 12, whatever is to be sealed.
func TestSealRefuses(t *testing.T) {
	for _, many := range []int{0, 1, 12, 16, 32, 100} {
		for _, n := range wrongCounts(32) {
			got, e := seal.Seal(filled(n), filled(12), filled(many), filled(many))
			isNone(t, got, e, api.ErrArg)
		}
		for _, n := range wrongCounts(12) {
			got, e := seal.Seal(filled(32), filled(n), filled(many), filled(many))
			isNone(t, got, e, api.ErrArg)
		}
		for _, x := range [][2][]byte{{nil, nil}, {nil, filled(12)}, {filled(32), nil}, {filled(12), filled(32)}, {filled(31), filled(13)}, {filled(33), filled(11)}} {
			got, e := seal.Seal(x[0], x[1], nil, filled(many))
			isNone(t, got, e, api.ErrArg)
		}
	}
}

// P6.2, P6.3: what bytes belong to is told as a row: of more bytes than that may have there is none, and so no tag.
func TestWithTooLong(t *testing.T) {
	if testing.Short() {
		t.Skip("takes a gigabyte")
	}
	long := make([]byte, api.MaxLen+1)
	got, e := seal.Seal(filled(32), filled(12), long, filled(3))
	isNone(t, got, e, api.ErrArg)
	for _, n := range []int{0, 31, 32, 33} {
		got, e = seal.Open(filled(32), filled(12), long, filled(n))
		isNone(t, got, e, api.ErrArg)
	}
}

// P6.5: what is sealed has 32 bytes more, of which those ahead of the tag are the stream: sealed again without it, they are the bytes.
func TestSealedHasMore(t *testing.T) {
	for _, n := range plainLengths {
		once, e := seal.Seal(filled(32), filled(12), nil, filled(n))
		if e != api.OK || len(once) != n+32 {
			t.Fatalf("%d bytes sealed: %d bytes, %d", n, len(once), e)
		}
		twice, e := seal.Seal(filled(32), filled(12), nil, once[:n])
		isRow(t, twice[:n], e, filled(n))
	}
}

// P6.2: another key, nonce, or bytes that these belong to, make another tag; another key or nonce another stream too.
func TestSealTellsArguments(t *testing.T) {
	tags, streams := map[string]bool{}, map[string]bool{}
	many, pairs := 0, 0
	for _, key := range keys()[:131] {
		for _, nonce := range nonces() {
			for _, with := range [][]byte{nil, {0}, {1}, {0, 0}, []byte("with")} {
				b, _ := seal.Seal(key, nonce, with, make([]byte, 32))
				streams[string(b[:32])], tags[string(b[32:])] = true, true
				many++
			}
			pairs++
		}
	}
	if len(tags) != many || len(streams) != pairs || many != 131*6*5 {
		t.Errorf("%d tags, %d streams; want %d, %d", len(tags), len(streams), many, pairs)
	}
}
