package byt_test

import (
	"bytes"
	"testing"

	"pyx/api"
	"pyx/byt"
)

// rows are some, of all counts of bytes that a length may have.
func rows() [][]byte {
	out := [][]byte{nil}
	for a := range 4 {
		out = append(out, []byte{byte(a)}, []byte{byte(a), 0x40}, []byte{0x40, byte(a)}, []byte{0x80, 0, 0x40, byte(a)})
	}
	for _, n := range []int{62, 63, 64, 65, 16383, 16384} {
		out = append(out, make([]byte, n), filled(n))
	}
	return out
}

// P1.5: what is put, one behind the other, is taken, whole, each from where the one ahead of it ended.
func TestPutAndTaken(t *testing.T) {
	var all []byte
	put := func(b []byte, e api.Errno) {
		if e != api.OK {
			t.Fatal(e)
		}
		all = append(all, b...)
	}
	for w := 1; w <= 7; w++ {
		put(byt.Num(greatest[w]-w, w))
		put(byt.Len(edges[w]))
	}
	for i, x := range rows() {
		put(byt.Row(x))
		row, _ := byt.Row(x)
		put(byt.Opt(i%2 == 0, row), api.OK)
	}
	at := takeNumbers(t, all)
	for i, x := range rows() {
		at = takeRow(t, all, at, x)
		is, next, e := byt.TakeOpt(all, at)
		if e != api.OK || is != (i%2 == 0) || next != at+1 {
			t.Fatalf("what may lack at %d: %v, %d, %d", at, is, next, e)
		}
		if at = next; is {
			at = takeRow(t, all, at, x)
		}
	}
	if at != len(all) {
		t.Errorf("the end is %d; want %d", at, len(all))
	}
}

// takeNumbers takes the numbers and lengths with which TestPutAndTaken begins; and answers the place behind them.
func takeNumbers(t *testing.T, b []byte) int {
	t.Helper()
	at := 0
	for w := 1; w <= 7; w++ {
		n, next, e := byt.TakeNum(b, at, w)
		if e != api.OK || n != greatest[w]-w {
			t.Fatalf("a number of %d bytes at %d: %d, %d", w, at, n, e)
		}
		if n, at, e = byt.TakeLen(b, next); e != api.OK || n != edges[w] {
			t.Fatalf("a length at %d: %d, %d", next, n, e)
		}
	}
	return at
}

// takeRow takes a row that must be x; and answers the place behind it.
func takeRow(t *testing.T, b []byte, at int, x []byte) int {
	t.Helper()
	row, next, e := byt.TakeRow(b, at, len(x))
	if e != api.OK || !bytes.Equal(row, x) {
		t.Fatalf("a row at %d: %d bytes, %d; want %d bytes", at, len(row), e, len(x))
	}
	return next
}

// P1.5: all numbers and lengths of few bytes are taken as they were put.
func TestAllPutAndTaken(t *testing.T) {
	for n := range 1 << 16 {
		b, _ := byt.Num(n, 2)
		if got, next, e := byt.TakeNum(b, 0, 2); e != api.OK || got != n || next != 2 {
			t.Fatalf("number %d: %d, %d, %d", n, got, next, e)
		}
		b, _ = byt.Len(n)
		if got, next, e := byt.TakeLen(b, 0); e != api.OK || got != n || next != len(b) {
			t.Fatalf("length %d: %d, %d, %d", n, got, next, e)
		}
	}
}

// P1.5: what is taken of four bytes, whatever the first two, is put as just those, up to the place that is told.
func TestTakenAndPut(t *testing.T) {
	for i := range 1 << 16 {
		for _, end := range [][]byte{{0, 0}, {0x3f, 0xff}, {0x40, 0}, {0xff, 0xff}} {
			b := append([]byte{byte(i >> 8), byte(i)}, end...)
			n, next, e := byt.TakeLen(b, 0)
			if e != api.OK {
				continue
			}
			if again, e := byt.Len(n); e != api.OK || !bytes.Equal(again, b[:next]) {
				t.Fatalf("%x: %d, %d, but Len(%d) is %x", b, n, next, n, again)
			}
		}
	}
}

// P1.5: of two that aren't the same, neither one's bytes are the beginning of the other's.
func TestNoBeginnings(t *testing.T) {
	var lens, nums, put, opts [][]byte
	for _, n := range edges {
		b, _ := byt.Len(n)
		lens = append(lens, b)
		b, _ = byt.Num(n, 4)
		nums = append(nums, b)
	}
	for _, x := range rows() {
		b, _ := byt.Row(x)
		put = append(put, b)
		opts = append(opts, byt.Opt(true, b))
	}
	opts = append(opts, byt.Opt(false, nil))
	for _, l := range [][][]byte{lens, nums, put, opts} {
		for i, a := range l {
			for j, b := range l {
				if i != j && bytes.HasPrefix(b, a) {
					t.Errorf("%.8x is, or is the beginning of, %.8x", a, b)
				}
			}
		}
	}
}

// P1.5: the text of bytes tells them, and no other ones.
func TestTextAndBytes(t *testing.T) {
	for _, x := range rows() {
		if b, e := byt.Bytes(byt.Text(x)); e != api.OK || !bytes.Equal(b, x) {
			t.Errorf("%.8x: %.8x, %d", x, b, e)
		}
	}
}

// R3: what is handed in stays as it was, with what lies behind it in the same memory.
func TestHandedInStays(t *testing.T) {
	own := []byte{2, 1, 2, 1, 0xaa, 0xbb, 0xcc}
	was := bytes.Clone(own)
	x := own[:4]
	byt.Row(x)
	byt.Row(own[:0])
	byt.Opt(true, x)
	byt.Opt(true, own[:0])
	byt.Opt(false, x)
	byt.Text(x)
	byt.TakeNum(x, 0, 3)
	byt.TakeLen(x, 0)
	byt.TakeRow(x, 0, 9)
	byt.TakeOpt(x, 3)
	if !bytes.Equal(own, was) {
		t.Errorf("%x; want %x", own, was)
	}
}

// R3: who writes into the one doesn't change the other: neither what came out, nor what was handed in, nor a later answer.
func TestNothingShared(t *testing.T) {
	calls := map[string]func(x []byte) []byte{
		"Num":         func([]byte) []byte { b, _ := byt.Num(258, 2); return b },
		"Len":         func([]byte) []byte { b, _ := byt.Len(64); return b },
		"Row":         func(x []byte) []byte { b, _ := byt.Row(x); return b },
		"TakeRow":     func(x []byte) []byte { b, _, _ := byt.TakeRow(x, 0, 9); return b },
		"Opt":         func(x []byte) []byte { return byt.Opt(true, x) },
		"Opt without": func(x []byte) []byte { return byt.Opt(false, x) },
		"Bytes":       func([]byte) []byte { b, _ := byt.Bytes("0102"); return b },
	}
	for name, call := range calls {
		own := []byte{2, 1, 2, 9, 9, 9}
		x := own[:3]
		first := call(x)
		want := bytes.Clone(first)
		clear(first[:cap(first)])
		if !bytes.Equal(own, []byte{2, 1, 2, 9, 9, 9}) {
			t.Errorf("%s: writing into the answer made %x of what was handed in", name, own)
		}
		second := call(x)
		if !bytes.Equal(second, want) {
			t.Errorf("%s: then %x; want %x", name, second, want)
		}
		clear(own)
		if !bytes.Equal(second, want) {
			t.Errorf("%s: writing into what was handed in made %x of the answer %x", name, second, want)
		}
	}
}
