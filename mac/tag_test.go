package mac_test

import (
	"bytes"
	"crypto/hmac"
	"crypto/sha256"
	"encoding/hex"
	"math/rand/v2"
	"slices"
	"strings"
	"testing"

	"pyx/mac"
)

// keyLengths are those about the edge of a block, and of a digest.
var keyLengths = []int{0, 1, 2, 16, 31, 32, 33, 62, 63, 64, 65, 66, 127, 128, 129, 1000}

// tagOf is the tag that the library has.
func tagOf(key []byte, rows ...[]byte) []byte {
	h := hmac.New(sha256.New, key)
	for _, row := range rows {
		h.Write(row)
	}
	return h.Sum(nil)
}

// digestOf is the digest that the library has, of rows one behind the other.
func digestOf(rows ...[]byte) []byte {
	digest := sha256.Sum256(slices.Concat(rows...))
	return digest[:]
}

// isSum asks that Sum answers the tag that the library has.
func isSum(t *testing.T, key, b []byte) {
	t.Helper()
	if got, want := mac.Sum(key, b), tagOf(key, b); !bytes.Equal(got, want) {
		t.Errorf("of %d bytes under %d: %x; want %x", len(b), len(key), got, want)
	}
}

// isAll asks that All answers the tag that the library has.
func isAll(t *testing.T, key []byte, l [][]byte) {
	t.Helper()
	if got, want := mac.All(key, l), tagOf(key, l...); !bytes.Equal(got, want) {
		t.Errorf("of %x under %d bytes: %x; want %x", l, len(key), got, want)
	}
}

// P3.3, P3.1: tags that are told elsewhere: RFC 4231, and of nothing under nothing.
func TestTagsToldElsewhere(t *testing.T) {
	counted := make([]byte, 25)
	for i := range counted {
		counted[i] = byte(i + 1)
	}
	for _, x := range []struct {
		key  []byte
		b    string
		want string
	}{
		{bytes.Repeat([]byte{0x0b}, 20), "Hi There", "b0344c61d8db38535ca8afceaf0bf12b881dc200c9833da726e9376c2e32cff7"},
		{[]byte("Jefe"), "what do ya want for nothing?", "5bdcc146bf60754e6a042426089575c75a003f089d2739839dec58b964ec3843"},
		{bytes.Repeat([]byte{0xaa}, 20), strings.Repeat("\xdd", 50), "773ea91e36800e46854db8ebd09181a72959098b3ef8c122d9635514ced565fe"},
		{counted, strings.Repeat("\xcd", 50), "82558a389a443c0ea4cc819899f2083a85f0faa3e578f8077a2e3ff46729665b"},
		{bytes.Repeat([]byte{0xaa}, 131), "Test Using Larger Than Block-Size Key - Hash Key First", "60e431591ee0b67f0d8a26aacbf5b77f8e0bc6213728c5140546040f0ee37f54"},
		{bytes.Repeat([]byte{0xaa}, 131), "This is a test using a larger than block-size key and a larger than block-size data. The key needs to be hashed before being used by the HMAC algorithm.", "9b09ffa71b942fcb27635fbcd5b0e944bfdc63644f0713938a7f51535c3a35e2"},
		{nil, "", "b613679a0814d9ec772f95d778c35fc5ff1697c493715653c6c712144292c5ad"},
		{[]byte("key"), "The quick brown fox jumps over the lazy dog", "f7bc83f430538424b13298e6aa6fb143ef4d59a14946175997479dbc2d1a3cd8"},
	} {
		if got := mac.Sum(x.key, []byte(x.b)); hex.EncodeToString(got) != x.want {
			t.Errorf("of %.20q under %x: %x; want %s", x.b, x.key, got, x.want)
		}
	}
}

// P3.1: a tag is a digest behind a block, of a digest behind a block, told by the document's own words.
func TestSumIsOfDigests(t *testing.T) {
	for _, n := range keyLengths {
		inner, outer := mac.Key(filled(n)), mac.Key(filled(n))
		for i := range 64 {
			inner[i] ^= 0x36
			outer[i] ^= 0x5c
		}
		for _, many := range []int{0, 1, 55, 64, 200} {
			want := digestOf(outer, digestOf(inner, filled(many)))
			if got := mac.Sum(filled(n), filled(many)); len(got) != 32 || !bytes.Equal(got, want) {
				t.Errorf("of %d bytes under %d: %x; want %x", many, n, got, want)
			}
		}
	}
}

// P3.1: of keys and bytes of any few lengths, and of many bytes.
func TestSum(t *testing.T) {
	for n := range 140 {
		for many := range 140 {
			isSum(t, filled(n), filled(many))
		}
	}
	for _, n := range keyLengths {
		isSum(t, filled(n), nil)
		isSum(t, make([]byte, n), make([]byte, 64))
		isSum(t, bytes.Repeat([]byte{0xff}, n), bytes.Repeat([]byte{0xff}, 64))
		isSum(t, filled(n), filled(1<<16+9))
	}
	isSum(t, filled(1<<16+9), filled(1<<20))
}

// P3.1: one bit that is another one, wherever it stands in the key or in the bytes, makes another tag; so does one that stands in the one instead of in the other.
func TestSumTellsAllBits(t *testing.T) {
	seen := map[string]int{}
	for _, n := range []int{64, 65} {
		for many := range 70 {
			seen[string(mac.Sum(make([]byte, n), make([]byte, many)))]++
		}
		for bit := range 8 * n {
			key := make([]byte, n)
			key[bit/8] = 1 << (bit % 8)
			seen[string(mac.Sum(key, make([]byte, 69)))]++
		}
		for bit := range 8 * 69 {
			b := make([]byte, 69)
			b[bit/8] = 1 << (bit % 8)
			seen[string(mac.Sum(make([]byte, n), b))]++
		}
	}
	if want := 2*70 + 8*(64+65) + 2*8*69; len(seen) != want {
		t.Errorf("%d tags; want %d", len(seen), want)
	}
}

// P3.3: bytes 00 behind a key change no tag, as long as there are at most 64.
func TestKeyWithMoreZeros(t *testing.T) {
	for n := range 64 {
		key, more := filled(n), append(filled(n), 0)
		for _, b := range [][]byte{nil, []byte("Hi There"), filled(100)} {
			if got, want := mac.Sum(more, b), mac.Sum(key, b); !bytes.Equal(got, want) {
				t.Errorf("under %d bytes and 00: %x; want %x", n, got, want)
			}
			if got, want := mac.All(more, [][]byte{b}), mac.All(key, [][]byte{b}); !bytes.Equal(got, want) {
				t.Errorf("of rows under %d bytes and 00: %x; want %x", n, got, want)
			}
		}
	}
	if !bytes.Equal(mac.Sum(nil, filled(9)), mac.Sum(make([]byte, 64), filled(9))) {
		t.Error("under 64 bytes 00 the tag is another one than under none")
	}
}

// P3.3: they do beyond that; so does any other byte, and a byte 00 ahead of the key.
func TestKeyWithOtherBytesMore(t *testing.T) {
	b := []byte("Hi There")
	for _, n := range []int{64, 65, 66, 100} {
		if bytes.Equal(mac.Sum(append(filled(n), 0), b), mac.Sum(filled(n), b)) {
			t.Errorf("under %d bytes and 00 the tag is the same", n)
		}
	}
	for n := range 64 {
		if bytes.Equal(mac.Sum(append(filled(n), 1), b), mac.Sum(filled(n), b)) {
			t.Errorf("under %d bytes and 01 the tag is the same", n)
		}
		if n > 0 && bytes.Equal(mac.Sum(append([]byte{0}, filled(n)...), b), mac.Sum(filled(n), b)) {
			t.Errorf("under 00 and %d bytes the tag is the same", n)
		}
	}
}

// P3.2: the tag of rows is that of the rows one behind the other, wherever they are parted, and empty rows don't count.
func TestAll(t *testing.T) {
	b := filled(150)
	for _, n := range keyLengths {
		key := filled(n)
		want := mac.Sum(key, b)
		for i := 0; i <= len(b); i += 5 {
			for j := i; j <= len(b); j += 7 {
				for _, l := range [][][]byte{
					{b[:i], b[i:j], b[j:]},
					{nil, b[:i], {}, b[i:j], nil, nil, b[j:], {}},
				} {
					if got := mac.All(key, l); !bytes.Equal(got, want) {
						t.Fatalf("parted at %d and %d, under %d bytes: %x; want %x", i, j, n, got, want)
					}
				}
			}
		}
		isAll(t, key, slices.Collect(slices.Chunk(b, 1)))
		isAll(t, key, slices.Collect(slices.Chunk(b, 64)))
	}
}

// P3.2: no rows, and rows that are all empty, have the tag of nothing.
func TestAllOfNothing(t *testing.T) {
	for _, n := range keyLengths {
		want := mac.Sum(filled(n), nil)
		for i, l := range [][][]byte{nil, {}, {nil}, {{}}, {nil, nil}, {{}, nil, {}}, make([][]byte, 300)} {
			if got := mac.All(filled(n), l); !bytes.Equal(got, want) {
				t.Errorf("%d, under %d bytes: %x; want %x", i, n, got, want)
			}
		}
	}
	if got := mac.All(nil, nil); hex.EncodeToString(got) != "b613679a0814d9ec772f95d778c35fc5ff1697c493715653c6c712144292c5ad" {
		t.Errorf("of nothing under nothing: %x", got)
	}
}

// P3.2: rows in another order, or one that is another one by a byte, or that lacks, make another tag.
func TestAllTellsRows(t *testing.T) {
	key := []byte("key")
	seen := map[string]int{}
	lists := [][][]byte{
		{{1}, {2}, {3}}, {{1}, {3}, {2}}, {{2}, {1}, {3}}, {{3}, {2}, {1}},
		{{1}, {2}}, {{1}, {3}}, {{2}, {3}}, {{1}}, {{2}}, {{3}}, {},
		{{1}, {2}, {3}, {0}}, {{0}, {1}, {2}, {3}}, {{1}, {2}, {3}, {3}}, {{1}, {2}, {2}},
	}
	for _, l := range lists {
		isAll(t, key, l)
		seen[string(mac.All(key, l))]++
	}
	if len(seen) != len(lists) {
		t.Errorf("%d tags; want %d", len(seen), len(lists))
	}
}

// P3.2: of many rows of any lengths.
func TestAllOfManyRows(t *testing.T) {
	r := rand.New(rand.NewPCG(3, 2))
	for range 300 {
		l := make([][]byte, r.IntN(200))
		for i := range l {
			l[i] = make([]byte, r.IntN(1+r.IntN(100)))
			for j := range l[i] {
				l[i][j] = byte(r.Uint32())
			}
		}
		isAll(t, filled(r.IntN(130)), l)
	}
	isAll(t, filled(65), slices.Repeat([][]byte{{7}, nil, {8, 9}}, 50000))
}
