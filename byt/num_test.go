package byt_test

import (
	"bytes"
	"math"
	"testing"

	"pyx/api"
	"pyx/byt"
)

// widths that a number may have, and the greatest number of each.
var greatest = map[int]int{1: 0xff, 2: 0xffff, 3: 0xffffff, 4: 0xffffffff, 5: 0xffffffffff, 6: 0xffffffffffff, 7: 0xffffffffffffff}

// wrongWidths are such that none may have.
var wrongWidths = []int{math.MinInt, -8, -1, 0, 8, 9, 16, 64, 65, 1 << 32, math.MaxInt}

// P1.1: the bytes that a number has, the highest one first.
func TestNumBytes(t *testing.T) {
	for _, x := range []struct {
		n, w int
		want []byte
	}{
		{0, 1, []byte{0}},
		{1, 1, []byte{1}},
		{127, 1, []byte{127}},
		{128, 1, []byte{128}},
		{255, 1, []byte{255}},
		{0, 2, []byte{0, 0}},
		{255, 2, []byte{0, 255}},
		{256, 2, []byte{1, 0}},
		{0x1234, 2, []byte{0x12, 0x34}},
		{0x010203, 3, []byte{1, 2, 3}},
		{0xfedcba98, 4, []byte{0xfe, 0xdc, 0xba, 0x98}},
		{0x0102030405, 5, []byte{1, 2, 3, 4, 5}},
		{0x010203040506, 6, []byte{1, 2, 3, 4, 5, 6}},
		{0xf1f2f3f4f5f6f7, 7, []byte{0xf1, 0xf2, 0xf3, 0xf4, 0xf5, 0xf6, 0xf7}},
		{1, 7, []byte{0, 0, 0, 0, 0, 0, 1}},
		{0, 7, make([]byte, 7)},
	} {
		if b, e := byt.Num(x.n, x.w); e != api.OK || !bytes.Equal(b, x.want) {
			t.Errorf("Num(%#x, %d): %x, %d; want %x", x.n, x.w, b, e, x.want)
		}
	}
}

// P1.1: each width takes the numbers up to one less than 2 to the power of 8 w, and no other ones.
func TestNumEdges(t *testing.T) {
	for w, most := range greatest {
		if b, e := byt.Num(most, w); e != api.OK || !bytes.Equal(b, bytes.Repeat([]byte{255}, w)) {
			t.Errorf("Num(%#x, %d): %x, %d", most, w, b, e)
		}
		for _, n := range []int{most + 1, most + 2, 2 * (most + 1), math.MaxInt, -1, -most, -most - 1, math.MinInt} {
			if b, e := byt.Num(n, w); e != api.ErrArg || len(b) != 0 {
				t.Errorf("Num(%d, %d): %x, %d; want ErrArg", n, w, b, e)
			}
		}
	}
	for _, w := range wrongWidths {
		for _, n := range []int{0, 1, 255, -1, math.MinInt, math.MaxInt} {
			if b, e := byt.Num(n, w); e != api.ErrArg || len(b) != 0 {
				t.Errorf("Num(%d, %d): %x, %d; want ErrArg", n, w, b, e)
			}
		}
	}
}

// P1.1: a number is taken from where it stands, whatever is around it.
func TestTakeNum(t *testing.T) {
	for w := 1; w <= 7; w++ {
		for _, n := range []int{0, 1, 0x7f, 0x80, 0xff, 0x0100, 0xff00, 0x01020304050607, greatest[w] - 1, greatest[w]} {
			n &= greatest[w]
			b, e := byt.Num(n, w)
			if e != api.OK {
				t.Fatalf("Num(%#x, %d): %d", n, w, e)
			}
			for at := range 4 {
				all := append(bytes.Repeat([]byte{0xa5}, at), b...)
				for range 3 {
					got, next, e := byt.TakeNum(all, at, w)
					if e != api.OK || got != n || next != at+w {
						t.Errorf("TakeNum(%x, %d, %d): %#x, %d, %d; want %#x, %d", all, at, w, got, next, e, n, at+w)
					}
					all = append(all, 0x5a)
				}
			}
		}
	}
}

// P1.1: bytes that end too soon, and arguments that may not be; with both the latter is told.
func TestTakeNumErrors(t *testing.T) {
	b := []byte{1, 2, 3, 4, 5, 6, 7, 8, 9}
	for w := 1; w <= 7; w++ {
		for n := range b {
			for at := 0; at <= n; at++ {
				want := api.ErrShort
				if n-at >= w {
					want = api.OK
				}
				noNum(t, b[:n], at, w, want)
			}
			for _, at := range []int{-1, -w, n + 1, n + w, math.MinInt, math.MaxInt, math.MaxInt - w} {
				noNum(t, b[:n], at, w, api.ErrArg)
			}
		}
		noNum(t, nil, 0, w, api.ErrShort)
		noNum(t, nil, 1, w, api.ErrArg)
	}
	for _, w := range wrongWidths {
		for _, at := range []int{0, 3, len(b), len(b) + 1, -1, math.MaxInt, math.MinInt} {
			noNum(t, b, at, w, api.ErrArg)
			noNum(t, nil, at, w, api.ErrArg)
		}
	}
}

// noNum asks that TakeNum answers that error, and nothing beside it.
func noNum(t *testing.T, b []byte, at, w int, want api.Errno) {
	t.Helper()
	n, next, e := byt.TakeNum(b, at, w)
	if e != want {
		t.Errorf("TakeNum(%x, %d, %d): %d; want %d", b, at, w, e, want)
	}
	if e != api.OK && (n != 0 || next != 0) {
		t.Errorf("TakeNum(%x, %d, %d): %d, %d beside an error", b, at, w, n, next)
	}
}
