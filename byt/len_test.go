package byt_test

import (
	"bytes"
	"encoding/binary"
	"math"
	"testing"

	"pyx/api"
	"pyx/byt"
)

// edges are lengths about which the count of bytes, or one of their bits, turns.
var edges = []int{0, 1, 2, 31, 32, 37, 62, 63, 64, 65, 127, 128, 255, 256, 8191, 8192, 15293, 16382, 16383, 16384, 16385, 65535, 65536, 1<<24 - 1, 1 << 24, 494878333, 1<<29 - 1, 1 << 29, 1<<30 - 2, 1<<30 - 1}

// lengthOf is a length's bytes, told a second way.
func lengthOf(n int) []byte {
	switch {
	case n <= 63:
		return []byte{byte(n)}
	case n <= 16383:
		return binary.BigEndian.AppendUint16(nil, uint16(n)|0x4000)
	default:
		return binary.BigEndian.AppendUint32(nil, uint32(n)|0x80000000)
	}
}

// P1.2: the bytes of each length.
func TestLenBytes(t *testing.T) {
	for _, x := range []struct {
		n    int
		want []byte
	}{
		{0, []byte{0}},
		{37, []byte{0x25}},
		{63, []byte{0x3f}},
		{64, []byte{0x40, 0x40}},
		{15293, []byte{0x7b, 0xbd}},
		{16383, []byte{0x7f, 0xff}},
		{16384, []byte{0x80, 0x00, 0x40, 0x00}},
		{494878333, []byte{0x9d, 0x7f, 0x3e, 0x7d}},
		{1<<30 - 1, []byte{0xbf, 0xff, 0xff, 0xff}},
	} {
		if b, e := byt.Len(x.n); e != api.OK || !bytes.Equal(b, x.want) {
			t.Errorf("Len(%d): %x, %d; want %x", x.n, b, e, x.want)
		}
	}
	for n := range 1 << 16 {
		if b, e := byt.Len(n); e != api.OK || !bytes.Equal(b, lengthOf(n)) {
			t.Fatalf("Len(%d): %x, %d; want %x", n, b, e, lengthOf(n))
		}
	}
	for _, n := range edges {
		if b, e := byt.Len(n); e != api.OK || !bytes.Equal(b, lengthOf(n)) {
			t.Errorf("Len(%d): %x, %d; want %x", n, b, e, lengthOf(n))
		}
	}
}

// P1.2: what is no length has no bytes.
func TestLenRefuses(t *testing.T) {
	for _, n := range []int{-1, -2, -64, math.MinInt, math.MinInt32, api.MaxLen + 1, api.MaxLen + 2, 1 << 31, 1 << 32, 1<<32 + 1, 1 << 62, math.MaxInt} {
		if b, e := byt.Len(n); e != api.ErrArg || len(b) != 0 {
			t.Errorf("Len(%d): %x, %d; want ErrArg", n, b, e)
		}
	}
}

// P1.2: a length is taken from where it stands; a byte less is too short.
func TestTakeLen(t *testing.T) {
	for _, n := range edges {
		b := lengthOf(n)
		for at := range 4 {
			all := append(bytes.Repeat([]byte{0xff}, at), b...)
			for range 3 {
				got, next, e := byt.TakeLen(all, at)
				if e != api.OK || got != n || next != at+len(b) {
					t.Errorf("TakeLen(%x, %d): %d, %d, %d; want %d, %d", all, at, got, next, e, n, at+len(b))
				}
				all = append(all, 0xff)
			}
			for less := 1; less <= len(b); less++ {
				noLen(t, all[:at+len(b)-less], at, api.ErrShort)
			}
		}
	}
}

// P1.2: a length in more bytes than it needs is none, however it is told.
func TestTakeLenNeedless(t *testing.T) {
	for n := range 1 << 14 {
		b := binary.BigEndian.AppendUint32(nil, uint32(n)|0x80000000)
		noLen(t, b, 0, api.ErrForm)
		if n < 64 {
			noLen(t, []byte{0x40, byte(n)}, 0, api.ErrForm)
			noLen(t, []byte{0x40, byte(n), 7, 7}, 0, api.ErrForm)
			noLen(t, []byte{9, 0x40, byte(n)}, 1, api.ErrForm)
		}
	}
}

// P1.2: a needless length that ends too soon is told to be too short, and no more.
func TestTakeLenNeedlessAndShort(t *testing.T) {
	noLen(t, []byte{0x40}, 0, api.ErrShort)
	noLen(t, []byte{0x80}, 0, api.ErrShort)
	noLen(t, []byte{0x80, 0}, 0, api.ErrShort)
	noLen(t, []byte{0x80, 0, 0}, 0, api.ErrShort)
	noLen(t, []byte{0x80, 0, 0x3f}, 0, api.ErrShort)
	noLen(t, []byte{1, 1, 0x80, 0, 0}, 2, api.ErrShort)
}

// P1.2: a first byte whose two highest bits are 3 begins no length, however many follow.
func TestTakeLenForm(t *testing.T) {
	for c := 0xc0; c <= 0xff; c++ {
		for more := range 9 {
			noLen(t, append([]byte{byte(c)}, make([]byte, more)...), 0, api.ErrForm)
		}
	}
}

// P1.2: places that may not be.
func TestTakeLenPlaces(t *testing.T) {
	for _, b := range [][]byte{nil, {}, {0}, {0xff}, {0x40}, {0x40, 0x40}, {0x80, 0, 0x40, 0}} {
		noLen(t, b, len(b), api.ErrShort)
		for _, at := range []int{-1, -len(b) - 1, len(b) + 1, len(b) + 2, math.MinInt, math.MaxInt} {
			noLen(t, b, at, api.ErrArg)
		}
	}
	// What lies behind the last byte, in the same memory, isn't there.
	noLen(t, []byte{0x40, 0x40}[:1], 0, api.ErrShort)
	noLen(t, []byte{0x40, 0x40}[:0], 0, api.ErrShort)
	noLen(t, []byte{0x40, 0x40}[:0], 1, api.ErrArg)
}

// noLen asks that TakeLen answers that error, and nothing beside it.
func noLen(t *testing.T, b []byte, at int, want api.Errno) {
	t.Helper()
	if n, next, e := byt.TakeLen(b, at); e != want || n != 0 || next != 0 {
		t.Errorf("TakeLen(%x, %d): %d, %d, %d; want 0, 0, %d", b, at, n, next, e, want)
	}
}
