package aes_test

import (
	"encoding/hex"
	"math/bits"
	"testing"

	"pyx/aes"
)

// boxesElsewhere is Box of each byte, as figure 7 of FIPS 197 tells it.
const boxesElsewhere = "637c777bf26b6fc53001672bfed7ab76ca82c97dfa5947f0add4a2af9ca472c0" +
	"b7fd9326363ff7cc34a5e5f171d8311504c723c31896059a071280e2eb27b275" +
	"09832c1a1b6e5aa0523bd6b329e32f8453d100ed20fcb15b6acbbe394a4c58cf" +
	"d0efaafb434d338545f9027f503c9fa851a3408f929d38f5bcb6da2110fff3d2" +
	"cd0c13ec5f974417c4a77e3d645d197360814fdc222a908846eeb814de5e0bdb" +
	"e0323a0a4906245cc2d3ac629195e479e7c8376d8dd54ea96c56f4ea657aae08" +
	"ba78252e1ca6b4c6e8dd741f4bbd8b8a703eb5664803f60e613557b986c11d9e" +
	"e1f8981169d98e949b1e87e9ce5528df8ca1890dbfe6426841992d0fb054bb16"

// unhex is what a text of bytes tells.
func unhex(t *testing.T, s string) []byte {
	t.Helper()
	b, err := hex.DecodeString(s)
	if err != nil {
		t.Fatal(err)
	}
	return b
}

// product is that of two sums of powers of x, less as many times x^8 + x^4 + x^3 + x + 1 as there are in it.
func product(a, b byte) byte {
	all := 0
	for i := range 8 {
		all ^= int(a) * (int(b) & (1 << i))
	}
	for n := bits.Len(uint(all)); n > 8; n = bits.Len(uint(all)) {
		all ^= 0x11b << (n - 9)
	}
	return byte(all)
}

// inverse is the one byte that makes 1 with another, and of 0 it is 0.
func inverse(t *testing.T, x byte) byte {
	t.Helper()
	var found []byte
	for y := range 256 {
		if product(x, byte(y)) == 1 {
			found = append(found, byte(y))
		}
	}
	if x == 0 && len(found) == 0 {
		return 0
	}
	if len(found) != 1 {
		t.Fatalf("inverses of %02x: %x", x, found)
	}
	return found[0]
}

// P5.1: products that are told elsewhere, in FIPS 197 among others.
func TestMulAsToldElsewhere(t *testing.T) {
	for _, x := range [][3]byte{
		{0x57, 0x83, 0xc1}, {0x57, 0x13, 0xfe}, {0x57, 0x01, 0x57}, {0x57, 0x02, 0xae}, {0x57, 0x04, 0x47}, {0x57, 0x08, 0x8e},
		{0x57, 0x10, 0x07}, {0x57, 0x20, 0x0e}, {0x57, 0x40, 0x1c}, {0x57, 0x80, 0x38}, {0x53, 0xca, 0x01}, {0x80, 0x02, 0x1b}, {0x7f, 0x02, 0xfe},
	} {
		if got := aes.Mul(x[0], x[1]); got != x[2] {
			t.Errorf("%02x by %02x: %02x; want %02x", x[0], x[1], got, x[2])
		}
	}
}

// P5.1: all products.
func TestMul(t *testing.T) {
	for a := range 256 {
		for b := range 256 {
			x, y := byte(a), byte(b)
			if got, want := aes.Mul(x, y), product(x, y); got != want {
				t.Errorf("%02x by %02x: %02x; want %02x", x, y, got, want)
			}
		}
	}
}

// P5.1: products with 0 and with 1, from either side.
func TestMulByNoneAndByOne(t *testing.T) {
	for a := range 256 {
		x := byte(a)
		if p, q := aes.Mul(x, 0), aes.Mul(0, x); p != 0 || q != 0 {
			t.Errorf("%02x by 0: %02x, %02x", x, p, q)
		}
		if p, q := aes.Mul(x, 1), aes.Mul(1, x); p != x || q != x {
			t.Errorf("%02x by 1: %02x, %02x", x, p, q)
		}
	}
}

// P5.1: of all bytes, by the document's words: the inverse, turned by 0 to 4, and 63.
func TestBox(t *testing.T) {
	for i := range 256 {
		y := inverse(t, byte(i))
		want := y ^ (y<<1 | y>>7) ^ (y<<2 | y>>6) ^ (y<<3 | y>>5) ^ (y<<4 | y>>4) ^ 0x63
		if got := aes.Box(byte(i)); got != want {
			t.Errorf("%02x: %02x; want %02x", i, got, want)
		}
	}
}

// P5.1: of all bytes, as it is told elsewhere; of 0, whose inverse is 0, it is 63, and of 53 it is ed.
func TestBoxAsToldElsewhere(t *testing.T) {
	for i, want := range unhex(t, boxesElsewhere) {
		if got := aes.Box(byte(i)); got != want {
			t.Errorf("%02x: %02x; want %02x", i, got, want)
		}
	}
	if a, b := aes.Box(0), aes.Box(0x53); a != 0x63 || b != 0xed {
		t.Errorf("%02x, %02x; want 63, ed", a, b)
	}
}

// P5.5: all 256 bytes through Box: none comes twice, so that each comes; and none is what it was, or all its other bits.
func TestBoxHasNoneTwice(t *testing.T) {
	var times [256]int
	for i := range 256 {
		y := aes.Box(byte(i))
		times[y]++
		if y == byte(i) || y == ^byte(i) {
			t.Errorf("%02x: %02x", i, y)
		}
	}
	for y, n := range times {
		if n != 1 {
			t.Errorf("%02x comes %d times", y, n)
		}
	}
}
