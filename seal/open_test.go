package seal_test

import (
	"bytes"
	"slices"
	"testing"

	"pyx/api"
	"pyx/seal"
)

// sealedOf is what Seal answers.
func sealedOf(t *testing.T, key, nonce, with, b []byte) []byte {
	t.Helper()
	sealed, e := seal.Seal(key, nonce, with, b)
	if e != api.OK {
		t.Fatal(e)
	}
	return sealed
}

// P6.3: what Seal was told, of counts of bytes about the edges of blocks, and of what they belong to.
func TestOpen(t *testing.T) {
	for _, n := range []int{0, 1, 15, 16, 17, 31, 32, 33, 63, 64, 65, 1000, 1 << 16} {
		for _, m := range []int{0, 1, 63, 64, 16383, 16384} {
			sealed := sealedOf(t, filled(32), filled(12), filled(m), filled(n))
			got, e := seal.Open(filled(32), filled(12), filled(m), sealed)
			isRow(t, got, e, filled(n))
			got, e = seal.Open(filled(32), filled(12), filled(m), append(sealed, 1, 2, 3)[:n+32])
			isRow(t, got, e, filled(n))
		}
	}
}

// P6.3: fewer bytes than a tag has, whatever they are; 32 bytes are a tag of nothing, or another one.
func TestOpenOfShort(t *testing.T) {
	tag := sealedOf(t, filled(32), filled(12), nil, nil)
	for n := range 32 {
		for _, b := range [][]byte{tag[:n], tag[32-n:], filled(n), make([]byte, n), make([]byte, n, 64)} {
			got, e := seal.Open(filled(32), filled(12), nil, b)
			isNone(t, got, e, api.ErrShort)
		}
	}
	got, e := seal.Open(filled(32), filled(12), nil, nil)
	isNone(t, got, e, api.ErrShort)
	got, e = seal.Open(filled(32), filled(12), nil, make([]byte, 32))
	isNone(t, got, e, api.ErrKey)
	got, e = seal.Open(filled(32), filled(12), nil, tag)
	isRow(t, got, e, nil)
}

// P6.3: each byte that is sealed, changed in any of its bits, one by one, or in all of them.
func TestOpenOfChanged(t *testing.T) {
	for _, n := range []int{0, 1, 15, 16, 17, 64} {
		sealed := sealedOf(t, filled(32), filled(12), []byte("with"), filled(n))
		for i := range sealed {
			for _, bits := range []byte{1, 2, 4, 8, 16, 32, 64, 128, 255} {
				b := bytes.Clone(sealed)
				b[i] ^= bits
				got, e := seal.Open(filled(32), filled(12), []byte("with"), b)
				isNone(t, got, e, api.ErrKey)
			}
		}
	}
}

// P6.3: sealed bytes that lack some at either end, have more there, or stand in another order.
func TestOpenOfMoved(t *testing.T) {
	for _, n := range []int{1, 15, 16, 17, 64} {
		sealed := sealedOf(t, filled(32), filled(12), nil, filled(n))
		refuses := func(b []byte) {
			t.Helper()
			got, e := seal.Open(filled(32), filled(12), nil, b)
			isNone(t, got, e, api.ErrKey)
		}
		for cut := 1; cut <= n; cut++ {
			refuses(sealed[:n+32-cut])
			refuses(sealed[cut:])
			refuses(slices.Concat(sealed[:n-cut], sealed[n:]))
		}
		for _, more := range [][]byte{{0}, {1}, make([]byte, 16), make([]byte, 32), sealed, sealed[n:]} {
			refuses(slices.Concat(sealed, more))
			refuses(slices.Concat(more, sealed))
			refuses(slices.Concat(sealed[:n], more, sealed[n:]))
		}
		refuses(slices.Concat(sealed[n:], sealed[:n]))
		refuses(slices.Concat(filled(n), sealed[n:]))
	}
}

// P6.3: a key, a nonce, or bytes that these belong to, which differ in one bit.
func TestOpenWithOthers(t *testing.T) {
	key, nonce, with := filled(32), filled(12), filled(20)
	for _, n := range []int{0, 1, 15, 16, 17, 64} {
		sealed := sealedOf(t, key, nonce, with, filled(n))
		for _, own := range [][]byte{key, nonce, with} {
			for bit := range 8 * len(own) {
				own[bit/8] ^= 1 << (bit % 8)
				got, e := seal.Open(key, nonce, with, sealed)
				isNone(t, got, e, api.ErrKey)
				own[bit/8] ^= 1 << (bit % 8)
			}
		}
		got, e := seal.Open(key, nonce, with, sealed)
		isRow(t, got, e, filled(n))
		for _, other := range [][]byte{nil, with[:19], with[1:], append(filled(20), 0), append([]byte{0}, with...), append([]byte{20}, with...)} {
			got, e = seal.Open(key, nonce, other, sealed)
			isNone(t, got, e, api.ErrKey)
		}
	}
}

// P6.3: bytes that go over from what the sealed ones belong to into the nonce, and from there into these, or back, are others, though all stand in the same order.
func TestOpenTellsWhereRowsEnd(t *testing.T) {
	with, nonce := filled(20), counted(12, 100)
	sealed := sealedOf(t, filled(32), nonce, with, filled(64))
	all := slices.Concat(with, nonce, sealed)
	for end := range 53 {
		got, e := seal.Open(filled(32), all[end:end+12], all[:end], all[end+12:])
		if end == 20 {
			isRow(t, got, e, filled(64))
		} else {
			isNone(t, got, e, api.ErrKey)
		}
	}
}

// P6.3: a key or a nonce that may not be comes first, then too few bytes, then the tag.
func TestOpenRefuses(t *testing.T) {
	right := sealedOf(t, filled(32), filled(12), nil, filled(3))
	for _, b := range [][]byte{nil, right[:31], right[:32], right[:34], right, filled(100)} {
		for _, n := range wrongCounts(32) {
			got, e := seal.Open(filled(n), filled(12), nil, b)
			isNone(t, got, e, api.ErrArg)
		}
		for _, n := range wrongCounts(12) {
			got, e := seal.Open(filled(32), filled(n), nil, b)
			isNone(t, got, e, api.ErrArg)
		}
		for _, x := range [][2][]byte{{nil, nil}, {nil, filled(12)}, {filled(32), nil}, {filled(12), filled(32)}, {filled(31), filled(13)}, {filled(33), filled(11)}} {
			got, e := seal.Open(x[0], x[1], nil, b)
			isNone(t, got, e, api.ErrArg)
		}
	}
	got, e := seal.Open(filled(96)[64:], filled(12), nil, right[:31])
	isNone(t, got, e, api.ErrShort)
	got, e = seal.Open(filled(96)[64:], filled(12), nil, right)
	isNone(t, got, e, api.ErrKey)
}

// P6.5: what Open takes, Seal answers: any bytes with the tag of those, that were made without Seal.
func TestWhatIsOpenedIsSealed(t *testing.T) {
	for _, nonce := range nonces() {
		for _, n := range plainLengths {
			for _, locked := range [][]byte{filled(n), make([]byte, n), bytes.Repeat([]byte{0xff}, n)} {
				made := taggedElsewhere(t, filled(32), nonce, filled(n%70), locked)
				opened, e := seal.Open(filled(32), nonce, filled(n%70), made)
				isRow(t, opened, e, streamedElsewhere(t, filled(32), nonce, locked))
				sealed, e := seal.Seal(filled(32), nonce, filled(n%70), opened)
				isRow(t, sealed, e, made)
			}
		}
	}
}

// FuzzOpen: whatever is told, Open ends with the first error that applies, or with what Seal makes the same of.
func FuzzOpen(f *testing.F) {
	sealed, _ := seal.Seal(filled(32), filled(12), []byte("with"), filled(20))
	f.Add(filled(32), filled(12), []byte("with"), sealed)
	f.Add(filled(32), filled(12), []byte("wit"), sealed)
	f.Add(filled(32), filled(12), []byte("with"), sealed[:31])
	f.Add(filled(31), filled(12), []byte{}, []byte{})
	f.Add(filled(32), filled(13), []byte{}, sealed)
	f.Fuzz(func(t *testing.T, key, nonce, with, b []byte) {
		opened, e := seal.Open(key, nonce, with, b)
		switch {
		case len(key) != 32 || len(nonce) != 12:
			isNone(t, opened, e, api.ErrArg)
		case len(b) < 32:
			isNone(t, opened, e, api.ErrShort)
		case e != api.OK:
			isNone(t, opened, e, api.ErrKey)
		default:
			again, e := seal.Seal(key, nonce, with, opened)
			isRow(t, again, e, b)
		}
	})
}
