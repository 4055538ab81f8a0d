package byt_test

import (
	"bytes"
	"math"
	"testing"

	"pyx/api"
	"pyx/byt"
)

// filled is n bytes, of which neighbours differ.
func filled(n int) []byte {
	b := make([]byte, n)
	for i := range b {
		b[i] = byte(i*7 + 1)
	}
	return b
}

// P1.3: a row is its length, and its bytes.
func TestRow(t *testing.T) {
	if b, e := byt.Row([]byte{1, 2}); e != api.OK || !bytes.Equal(b, []byte{2, 1, 2}) {
		t.Errorf("Row of 1, 2: %x, %d", b, e)
	}
	if b, e := byt.Row(nil); e != api.OK || !bytes.Equal(b, []byte{0}) {
		t.Errorf("Row of nothing: %x, %d", b, e)
	}
	for _, n := range []int{0, 1, 2, 62, 63, 64, 65, 300, 16382, 16383, 16384, 16385, 1 << 17} {
		x := filled(n)
		if b, e := byt.Row(x); e != api.OK || !bytes.Equal(b, append(lengthOf(n), x...)) {
			t.Errorf("Row of %d bytes: %d bytes, %d", n, len(b), e)
		}
	}
}

// P1.3: a row of MaxLen bytes is the longest one.
func TestLongestRow(t *testing.T) {
	if testing.Short() {
		t.Skip("takes two gigabytes")
	}
	x := make([]byte, api.MaxLen+1)
	if b, e := byt.Row(x); e != api.ErrArg || len(b) != 0 {
		t.Errorf("MaxLen + 1 bytes: %d bytes, %d; want ErrArg", len(b), e)
	}
	b, e := byt.Row(x[:api.MaxLen])
	if e != api.OK || len(b) != 4+api.MaxLen || !bytes.Equal(b[:4], []byte{0xbf, 0xff, 0xff, 0xff}) {
		t.Errorf("MaxLen bytes: %d bytes, %d", len(b), e)
	}
}

// P1.3: a row is taken from where it stands, if it isn't above the most that is told.
func TestTakeRow(t *testing.T) {
	for _, n := range []int{0, 1, 2, 63, 64, 65, 16383, 16384} {
		x := filled(n)
		for at := range 3 {
			b := append(bytes.Repeat([]byte{0xff}, at), lengthOf(n)...)
			end := at + len(lengthOf(n)) + n
			b = append(append(b, x...), 0xff, 0xff)
			for _, most := range []int{n, n + 1, api.MaxLen, math.MaxInt} {
				for more := range 3 {
					row, next, e := byt.TakeRow(b[:end+more], at, most)
					if e != api.OK || next != end || !bytes.Equal(row, x) {
						t.Errorf("TakeRow of %d bytes at %d, most %d: %d bytes, %d, %d", n, at, most, len(row), next, e)
					}
				}
			}
			for _, most := range []int{n - 1, n / 2, 0, -1, math.MinInt} {
				if most < n {
					noRow(t, b, at, most, api.ErrBig)
				}
			}
			if n > 0 {
				noRow(t, b[:end-1], at, n, api.ErrShort)
				noRow(t, b[:end-n], at, n, api.ErrShort)
			}
		}
	}
}

// P1.3: TakeLen's errors come first, then a length above the most, then bytes that end too soon.
func TestTakeRowErrors(t *testing.T) {
	for _, x := range []struct {
		b        []byte
		at, most int
		want     api.Errno
	}{
		{[]byte{2, 1, 2}, -1, 9, api.ErrArg},
		{[]byte{2, 1, 2}, 4, 9, api.ErrArg},
		{[]byte{2, 1, 2}, 4, -1, api.ErrArg},
		{[]byte{2, 1, 2}, math.MaxInt, 9, api.ErrArg},
		{[]byte{2, 1, 2}, math.MinInt, 9, api.ErrArg},
		{nil, 1, 9, api.ErrArg},
		{nil, 0, 9, api.ErrShort},
		{nil, 0, -1, api.ErrShort},
		{[]byte{2, 1, 2}, 3, 9, api.ErrShort},
		{[]byte{0xc0, 1, 2}, 0, 9, api.ErrForm},
		{[]byte{0xff}, 0, -1, api.ErrForm},
		{[]byte{0x40}, 0, -1, api.ErrShort},
		{[]byte{0x80, 0, 0}, 0, -1, api.ErrShort},
		{[]byte{0x40, 1, 7}, 0, 9, api.ErrForm},
		{[]byte{0x40, 0}, 0, 9, api.ErrForm},
		{[]byte{0x40, 63}, 0, 1, api.ErrForm},
		{[]byte{0x80, 0, 0x3f, 0xff}, 0, 1, api.ErrForm},
		{[]byte{0}, 0, -1, api.ErrBig},
		{[]byte{3, 1, 2}, 0, 2, api.ErrBig},
		{[]byte{3, 1, 2}, 0, 3, api.ErrShort},
		{[]byte{3}, 0, 0, api.ErrBig},
		{[]byte{1, 2, 1, 2}, 3, 2, api.ErrShort},
		{[]byte{0xbf, 0xff, 0xff, 0xff}, 0, api.MaxLen - 1, api.ErrBig},
		{[]byte{0xbf, 0xff, 0xff, 0xff}, 0, api.MaxLen, api.ErrShort},
		{[]byte{0xbf, 0xff, 0xff, 0xff, 0}, 0, math.MaxInt, api.ErrShort},
		{[]byte{2, 1, 2}[:2], 0, 9, api.ErrShort},
	} {
		noRow(t, x.b, x.at, x.most, x.want)
	}
}

// P1.3: what may lack.
func TestOpt(t *testing.T) {
	for _, x := range [][]byte{nil, {}, {0}, {1}, {7, 8}, filled(300)} {
		if b := byt.Opt(true, x); !bytes.Equal(b, append([]byte{1}, x...)) {
			t.Errorf("Opt of %x: %x", x, b)
		}
		if b := byt.Opt(false, x); !bytes.Equal(b, []byte{0}) {
			t.Errorf("Opt without %x: %x", x, b)
		}
	}
}

// P1.3: the byte that tells whether it is there, wherever it stands.
func TestTakeOpt(t *testing.T) {
	for c := range 256 {
		for at := range 3 {
			b := append(bytes.Repeat([]byte{byte(c ^ 1)}, at), byte(c))
			want, end := api.OK, at+1
			if c > 1 {
				want, end = api.ErrForm, 0
			}
			for range 2 {
				is, next, e := byt.TakeOpt(b, at)
				if e != want || is != (c == 1) || next != end {
					t.Errorf("TakeOpt(%x, %d): %v, %d, %d", b, at, is, next, e)
				}
				b = append(b, byte(c^1))
			}
		}
	}
}

// P1.3: places of what may lack that may not be, and bytes that end there.
func TestTakeOptErrors(t *testing.T) {
	for _, b := range [][]byte{nil, {}, {1}, {1, 1}, {0, 2, 1}, []byte{1, 1, 1}[:1]} {
		noOpt(t, b, len(b), api.ErrShort)
		for _, at := range []int{-1, -len(b) - 1, len(b) + 1, len(b) + 2, math.MinInt, math.MaxInt} {
			noOpt(t, b, at, api.ErrArg)
		}
	}
}

// noRow asks that TakeRow answers that error, and nothing beside it.
func noRow(t *testing.T, b []byte, at, most int, want api.Errno) {
	t.Helper()
	if row, next, e := byt.TakeRow(b, at, most); e != want || len(row) != 0 || next != 0 {
		t.Errorf("TakeRow(%.8x, %d, %d): %.8x, %d, %d; want none, 0, %d", b, at, most, row, next, e, want)
	}
}

// noOpt asks that TakeOpt answers that error, and nothing beside it.
func noOpt(t *testing.T, b []byte, at int, want api.Errno) {
	t.Helper()
	if is, next, e := byt.TakeOpt(b, at); e != want || is || next != 0 {
		t.Errorf("TakeOpt(%x, %d): %v, %d, %d; want no, 0, %d", b, at, is, next, e, want)
	}
}
