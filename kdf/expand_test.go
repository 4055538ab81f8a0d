package kdf_test

import (
	"bytes"
	"crypto/hkdf"
	"crypto/sha256"
	"encoding/hex"
	"math"
	"slices"
	"testing"

	"pyx/api"
	"pyx/kdf"
	"pyx/mac"
)

// mostExpanded is how many bytes Expand and Label answer at most.
const mostExpanded = 8160

// keyLengths are those about the edges of a digest, and of a key's block.
var keyLengths = []int{0, 1, 16, 31, 32, 33, 63, 64, 65, 128, 1000}

// counts are those of bytes about the edges of blocks, that are asked for.
var counts = []int{0, 1, 2, 16, 31, 32, 33, 63, 64, 65, 96, 97, 255, 256, 257, 1024, 4096, 8127, 8128, 8129, 8159, 8160}

// wrongCounts are such that none of the calls answers.
var wrongCounts = []int{math.MinInt, math.MinInt32, -8160, -65536, -32, -1, 8161, 8162, 8192, 65535, 65536, 65536 + 32, 1 << 32, 1<<32 + 32, math.MaxInt}

// filled is n bytes, none of them 00; a piece of 64 is another one than that ahead of it.
func filled(n int) []byte {
	b := make([]byte, n)
	for i := range b {
		b[i] = byte((i*167+i/64*31)%255 + 1)
	}
	return b
}

// unhex is what a text of bytes tells.
func unhex(t *testing.T, s string) []byte {
	t.Helper()
	b, err := hex.DecodeString(s)
	if err != nil {
		t.Fatal(err)
	}
	return b
}

// isRow asks that a call answered these bytes, without an error.
func isRow(t *testing.T, got []byte, e api.Errno, want []byte) {
	t.Helper()
	if e != api.OK || !bytes.Equal(got, want) {
		t.Errorf("%d bytes %.80x, %d; want %d bytes %.80x", len(got), got, e, len(want), want)
	}
}

// isRefused asks that a call answered ErrArg, and nothing beside it.
func isRefused(t *testing.T, got []byte, e api.Errno) {
	t.Helper()
	if e != api.ErrArg || got != nil {
		t.Errorf("%d bytes %.80x, %d; want none, ErrArg", len(got), got, e)
	}
}

// expandedElsewhere is what the library expands a key to.
func expandedElsewhere(t *testing.T, key, info []byte, n int) []byte {
	t.Helper()
	b, err := hkdf.Expand(sha256.New, key, string(info), n)
	if err != nil {
		t.Fatal(err)
	}
	return b
}

// toldElsewhere are the cases of RFC 5869, A.1 to A.3.
var toldElsewhere = []struct{ secret, salt, info, key, out string }{
	{
		"0b0b0b0b0b0b0b0b0b0b0b0b0b0b0b0b0b0b0b0b0b0b",
		"000102030405060708090a0b0c",
		"f0f1f2f3f4f5f6f7f8f9",
		"077709362c2e32df0ddc3f0dc47bba6390b6c73bb50f9c3122ec844ad7c2b3e5",
		"3cb25f25faacd57a90434f64d0362f2a2d2d0a90cf1a5a4c5db02d56ecc4c5bf34007208d5b887185865",
	},
	{
		"000102030405060708090a0b0c0d0e0f101112131415161718191a1b1c1d1e1f202122232425262728292a2b2c2d2e2f303132333435363738393a3b3c3d3e3f404142434445464748494a4b4c4d4e4f",
		"606162636465666768696a6b6c6d6e6f707172737475767778797a7b7c7d7e7f808182838485868788898a8b8c8d8e8f909192939495969798999a9b9c9d9e9fa0a1a2a3a4a5a6a7a8a9aaabacadaeaf",
		"b0b1b2b3b4b5b6b7b8b9babbbcbdbebfc0c1c2c3c4c5c6c7c8c9cacbcccdcecfd0d1d2d3d4d5d6d7d8d9dadbdcdddedfe0e1e2e3e4e5e6e7e8e9eaebecedeeeff0f1f2f3f4f5f6f7f8f9fafbfcfdfeff",
		"06a6b88c5853361a06104c9ceb35b45cef760014904671014a193f40c15fc244",
		"b11e398dc80327a1c8e7f78c596a49344f012eda2d4efad8a050cc4c19afa97c59045a99cac7827271cb41c65e590e09da3275600c2f09b8367793a9aca3db71cc30c58179ec3e87c14c01d5c1f3434f1d87",
	},
	{
		"0b0b0b0b0b0b0b0b0b0b0b0b0b0b0b0b0b0b0b0b0b0b",
		"",
		"",
		"19ef24a32c717b167f33a91d6f648bdf96596776afdb6377ac434c1c293ccb04",
		"8da4e775a563c18f715f802a063c5a31b8a11f5c5ee1879ec3454e5f3c738d2d9d201395faa4b61a96c8",
	},
}

// P4.1: keys, and bytes of them, that are told elsewhere.
func TestExtractedAndExpandedAsToldElsewhere(t *testing.T) {
	for _, x := range toldElsewhere {
		key := kdf.Extract(unhex(t, x.salt), unhex(t, x.secret))
		isRow(t, key, api.OK, unhex(t, x.key))
		want := unhex(t, x.out)
		got, e := kdf.Expand(key, unhex(t, x.info), len(want))
		isRow(t, got, e, want)
	}
}

// P4.1: a key is the tag of the secret under the salt, not that of the salt under the secret.
func TestExtract(t *testing.T) {
	for _, n := range keyLengths {
		for _, many := range keyLengths {
			salt, secret := filled(n), filled(many + 7)[7:]
			want, err := hkdf.Extract(sha256.New, secret, salt)
			if err != nil {
				t.Fatal(err)
			}
			isRow(t, kdf.Extract(salt, secret), api.OK, want)
			isRow(t, kdf.Extract(salt, secret), api.OK, mac.Sum(salt, secret))
		}
	}
	isRow(t, kdf.Extract(nil, nil), api.OK, mac.Sum([]byte{}, []byte{}))
}

// P4.1: blocks by the document's own words: none is ahead of the first one, and each one's place is one byte, from 1 to 255.
func TestExpandByBlocks(t *testing.T) {
	for _, n := range keyLengths {
		key, info := filled(n), filled(n+3)
		var all, block []byte
		for i := 1; i <= 255; i++ {
			block = mac.Sum(key, slices.Concat(block, info, []byte{byte(i)}))
			all = append(all, block...)
		}
		for _, many := range counts {
			got, e := kdf.Expand(key, info, many)
			isRow(t, got, e, all[:many])
		}
	}
}

// P4.1: of keys and infos of any lengths, and of many bytes.
func TestExpand(t *testing.T) {
	for _, n := range append(keyLengths, 1<<16+1) {
		for _, many := range append(keyLengths, 1<<14) {
			key, info := filled(n), filled(many)
			got, e := kdf.Expand(key, info, 97)
			isRow(t, got, e, expandedElsewhere(t, key, info, 97))
		}
	}
	for _, n := range counts {
		got, e := kdf.Expand(filled(32), nil, n)
		isRow(t, got, e, expandedElsewhere(t, filled(32), nil, n))
		got, e = kdf.Expand(nil, []byte{}, n)
		isRow(t, got, e, expandedElsewhere(t, nil, nil, n))
	}
}

// P4.1: counts of bytes that it doesn't answer.
func TestExpandRefuses(t *testing.T) {
	for _, n := range wrongCounts {
		for _, row := range [][]byte{nil, {}, filled(32), filled(100)} {
			got, e := kdf.Expand(row, row, n)
			isRefused(t, got, e)
		}
	}
}

// P4.4: fewer bytes are the beginning of more.
func TestFewerExpandedBegin(t *testing.T) {
	key, info := filled(32), []byte("info")
	all, e := kdf.Expand(key, info, mostExpanded)
	if e != api.OK || len(all) != mostExpanded {
		t.Fatalf("%d bytes, %d", len(all), e)
	}
	for n := 0; n <= mostExpanded; n++ {
		// About all edges of blocks, and each of the few.
		if n < 200 || (n+1)%32 < 3 {
			got, e := kdf.Expand(key, info, n)
			isRow(t, got, e, all[:n])
		}
	}
}

// P4.1: another key, info or salt makes other bytes; so does a byte that stands in the one instead of in the other.
func TestExpandTellsArguments(t *testing.T) {
	seen := map[string]int{}
	many := 0
	for n := range 65 {
		for _, info := range [][]byte{nil, {0}, {1}, {1, 0}, {1, 1}, filled(n + 2)} {
			b, _ := kdf.Expand(append(filled(n), 9), info, 32)
			seen[string(b)]++
			many++
		}
		seen[string(kdf.Extract(append(filled(n), 9), nil))]++
		seen[string(kdf.Extract([]byte{8}, append(filled(n), 9)))]++
		many += 2
	}
	if len(seen) != many {
		t.Errorf("%d rows; want %d", len(seen), many)
	}
}
