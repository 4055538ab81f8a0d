package sig_test

import (
	"bytes"
	"slices"
	"testing"

	"pyx/api"
	"pyx/sig"
)

// wrapped is a seed, a half and what is wrapped for the seed with it, with that info.
func wrapped(t *testing.T, info, b []byte) ([]byte, []byte, []byte) {
	t.Helper()
	seed := filled(32)
	half, box, e := sig.Wrap(publicOf(t, seed), counted(32, 9), info, b)
	if e != api.OK {
		t.Fatal(e)
	}
	return seed, half, box
}

// P7.4: what Wrap was told, of counts of bytes about the edges of blocks, whatever lies behind it in the same memory.
func TestUnwrap(t *testing.T) {
	for _, n := range lengths {
		seed, half, box := wrapped(t, []byte("info"), filled(n))
		got, e := sig.Unwrap(seed, half, []byte("info"), box)
		isRow(t, got, e, filled(n))
		got, e = sig.Unwrap(append(seed, 1)[:32], append(half, 2)[:32], []byte("info and more")[:4], append(box, 3)[:n+32])
		isRow(t, got, e, filled(n))
	}
}

// P7.4: what was wrapped elsewhere for any seed with any half, even one that is no seed's.
func TestUnwrapOfAnyHalf(t *testing.T) {
	for _, seed := range seeds()[:40] {
		for _, half := range seeds()[:20] {
			secret := tagElsewhere(publicElsewhere(t, seed), half)
			box := sealedElsewhere(t, labelledElsewhere(t, secret, "key", []byte{9}, 32), labelledElsewhere(t, secret, "nonce", []byte{9}, 12), filled(32))
			got, e := sig.Unwrap(seed, half, []byte{9}, box)
			isRow(t, got, e, filled(32))
		}
	}
}

// P7.4: fewer bytes than a tag has, 31 among them, whatever they are, and whatever the others; 32 bytes are nothing that was wrapped, or something else.
func TestUnwrapOfShort(t *testing.T) {
	seed, half, box := wrapped(t, nil, nil)
	for n := range 32 {
		for _, b := range [][]byte{box[:n], box[32-n:], filled(n), make([]byte, n, 64)} {
			got, e := sig.Unwrap(seed, half, nil, b)
			isNone(t, got, e, api.ErrShort)
			got, e = sig.Unwrap(full(32), full(32), []byte("info"), b)
			isNone(t, got, e, api.ErrShort)
		}
	}
	got, e := sig.Unwrap(seed, half, nil, nil)
	isNone(t, got, e, api.ErrShort)
	got, e = sig.Unwrap(seed, half, nil, make([]byte, 32))
	isNone(t, got, e, api.ErrKey)
	got, e = sig.Unwrap(seed, half, nil, box)
	isRow(t, got, e, nil)
}

// P7.4: each byte that is wrapped, changed in any of its bits, one by one, or in all of them.
func TestUnwrapOfChanged(t *testing.T) {
	for _, n := range []int{0, 1, 16, 32, 33} {
		seed, half, box := wrapped(t, []byte("info"), filled(n))
		for i := range box {
			for _, bits := range []byte{1, 2, 4, 8, 16, 32, 64, 128, 255} {
				changed := bytes.Clone(box)
				changed[i] ^= bits
				got, e := sig.Unwrap(seed, half, []byte("info"), changed)
				isNone(t, got, e, api.ErrKey)
			}
		}
	}
}

// P7.4: wrapped bytes that lack some at either end, have more there, or stand in another order.
func TestUnwrapOfMoved(t *testing.T) {
	for _, n := range []int{1, 16, 32, 33} {
		seed, half, box := wrapped(t, nil, filled(n))
		refuses := func(b []byte) {
			t.Helper()
			got, e := sig.Unwrap(seed, half, nil, b)
			isNone(t, got, e, api.ErrKey)
		}
		for cut := 1; cut <= n; cut++ {
			refuses(box[:n+32-cut])
			refuses(box[cut:])
		}
		for _, more := range [][]byte{{0}, {1}, make([]byte, 32), box, half} {
			refuses(slices.Concat(box, more))
			refuses(slices.Concat(more, box))
		}
		refuses(slices.Concat(box[n:], box[:n]))
		refuses(slices.Concat(filled(n), box[n:]))
	}
}

// P7.4: a seed, a half, or an info, that differ in one bit, or are others.
func TestUnwrapWithOthers(t *testing.T) {
	info := filled(20)
	for _, n := range []int{0, 1, 32} {
		seed, half, box := wrapped(t, info, filled(n))
		for _, own := range [][]byte{seed, half, info} {
			for bit := range 8 * len(own) {
				own[bit/8] ^= 1 << (bit % 8)
				got, e := sig.Unwrap(seed, half, info, box)
				isNone(t, got, e, api.ErrKey)
				own[bit/8] ^= 1 << (bit % 8)
			}
		}
		got, e := sig.Unwrap(seed, half, info, box)
		isRow(t, got, e, filled(n))
		for _, other := range [][]byte{nil, {0}, info[:19], info[1:], append(filled(20), 0), append([]byte{0}, info...), append([]byte{20}, info...)} {
			got, e = sig.Unwrap(seed, half, other, box)
			isNone(t, got, e, api.ErrKey)
		}
		for _, other := range [][2][]byte{{counted(32, 9), half}, {half, seed}, {publicOf(t, seed), half}, {seed, publicOf(t, seed)}, {seed, counted(32, 9)}, {counted(32, 9), publicOf(t, seed)}} {
			got, e = sig.Unwrap(other[0], other[1], info, box)
			isNone(t, got, e, api.ErrKey)
		}
	}
}

// P7.4: a seed or a half that may not be, 31 and 33 bytes of them among those, comes first, then too few wrapped bytes, then the tag.
func TestUnwrapRefuses(t *testing.T) {
	seed, half, box := wrapped(t, nil, filled(3))
	for _, b := range [][]byte{nil, box[:31], box[:32], box[:34], box, filled(100)} {
		for _, n := range wrongCounts() {
			got, e := sig.Unwrap(filled(n), half, nil, b)
			isNone(t, got, e, api.ErrArg)
			got, e = sig.Unwrap(seed, filled(n), nil, b)
			isNone(t, got, e, api.ErrArg)
			got, e = sig.Unwrap(filled(n), filled(n), nil, b)
			isNone(t, got, e, api.ErrArg)
		}
		for _, x := range [][2][]byte{{nil, nil}, {nil, half}, {seed, nil}, {seed[:31], filled(33)}, {filled(33), half[:31]}, {seed, half[:31]}, {seed[:31], half}, {seed, append(half, 0)}, {append(seed, 0), half}} {
			got, e := sig.Unwrap(x[0], x[1], nil, b)
			isNone(t, got, e, api.ErrArg)
		}
	}
	got, e := sig.Unwrap(full(32), half, nil, box[:31])
	isNone(t, got, e, api.ErrShort)
	got, e = sig.Unwrap(full(32), half, nil, box)
	isNone(t, got, e, api.ErrKey)
}

// FuzzUnwrap: whatever is told, Unwrap ends with the first error that applies, or with what was wrapped.
func FuzzUnwrap(f *testing.F) {
	public, _ := sig.Public(filled(32))
	half, box, _ := sig.Wrap(public, counted(32, 9), []byte("info"), filled(20))
	f.Add(filled(32), half, []byte("info"), box)
	f.Add(filled(32), half, []byte("inf"), box)
	f.Add(filled(32), half, []byte("info"), box[:31])
	f.Add(filled(31), half, []byte{}, []byte{})
	f.Add(filled(32), half[:31], []byte{}, box)
	f.Fuzz(func(t *testing.T, seed, half, info, b []byte) {
		got, e := sig.Unwrap(seed, half, info, b)
		switch {
		case len(seed) != 32 || len(half) != 32:
			isNone(t, got, e, api.ErrArg)
		case len(b) < 32:
			isNone(t, got, e, api.ErrShort)
		case e != api.OK:
			isNone(t, got, e, api.ErrKey)
		default:
			secret := tagElsewhere(publicElsewhere(t, seed), half)
			isRow(t, b, e, sealedElsewhere(t, labelledElsewhere(t, secret, "key", info, 32), labelledElsewhere(t, secret, "nonce", info, 12), got))
		}
	})
}
