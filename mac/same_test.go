package mac_test

import (
	"bytes"
	"testing"
	"time"

	"pyx/mac"
)

// isSame asks that Same answers so, whichever of the two is told first.
func isSame(t *testing.T, a, b []byte, want bool) {
	t.Helper()
	if mac.Same(a, b) != want || mac.Same(b, a) != want {
		t.Errorf("%x and %x: %t, %t; want %t", a, b, mac.Same(a, b), mac.Same(b, a), want)
	}
}

// P3.2: rows without bytes are the same.
func TestSameOfNothing(t *testing.T) {
	isSame(t, nil, nil, true)
	isSame(t, nil, []byte{}, true)
	isSame(t, []byte{}, []byte{}, true)
	isSame(t, filled(3)[:0], filled(9)[9:], true)
}

// P3.2: rows are the same if all their bytes are, in the same memory or in another.
func TestSame(t *testing.T) {
	for n := range 200 {
		isSame(t, filled(n), filled(n), true)
		isSame(t, make([]byte, n), make([]byte, n, 256), true)
		own := filled(n)
		isSame(t, own, own, true)
	}
	isSame(t, filled(1<<20), filled(1<<20), true)
}

// P3.2: one bit tells rows apart, wherever it stands; so do two, even such that undo each other in a sum or an exclusive or.
func TestSameTellsAllBits(t *testing.T) {
	for _, n := range []int{1, 2, 31, 32, 33, 64, 65} {
		for bit := range 8 * n {
			b := filled(n)
			b[bit/8] ^= 1 << (bit % 8)
			isSame(t, filled(n), b, false)
			for at := range n {
				if at != bit/8 {
					two := bytes.Clone(b)
					two[at] ^= 1 << (bit % 8)
					isSame(t, filled(n), two, false)
				}
			}
		}
		isSame(t, make([]byte, n), bytes.Repeat([]byte{0xff}, n), false)
	}
	isSame(t, []byte{1, 2, 3}, []byte{3, 2, 1}, false)
	isSame(t, []byte{1, 2, 3}, []byte{2, 1, 3}, false)
	isSame(t, []byte{0, 2}, []byte{1, 1}, false)
	last := filled(1 << 16)
	last[1<<16-1]++
	isSame(t, filled(1<<16), last, false)
}

// P3.2: any two bytes, as rows of one.
func TestSameOfOneByte(t *testing.T) {
	for x := range 256 {
		for y := range 256 {
			isSame(t, []byte{byte(x)}, []byte{byte(y)}, x == y)
		}
	}
}

// P3.2: rows of other lengths aren't the same, even if the one is how the other begins or ends, and whatever lies behind it in the same memory.
func TestSameOfOtherLengths(t *testing.T) {
	all := filled(130)
	for n := range all {
		for m := range n {
			isSame(t, all[:m], all[:n], false)
			isSame(t, all[n-m:n], all[:n], false)
			isSame(t, make([]byte, m), make([]byte, n), false)
		}
	}
	isSame(t, nil, []byte{0}, false)
	isSame(t, []byte{}, make([]byte, 256), false)
	isSame(t, make([]byte, 1), make([]byte, 257), false)
	isSame(t, make([]byte, 7), make([]byte, 1<<16+7), false)
}

// Rows are compared without telling where they part: what parts at its first byte takes as long as what is the same. It asks for an eighth, so that a machine that is busy doesn't matter; to stop at the first byte would take less than a thousandth.
func TestSameTakesAsLong(t *testing.T) {
	const n = 1 << 20
	a, b := filled(n), filled(n)
	b[0]++
	shortest := func(best time.Duration, b []byte) time.Duration {
		from := time.Now()
		mac.Same(a, b)
		return min(best, time.Since(from))
	}
	same, apart := time.Hour, time.Hour
	for range 20 {
		same, apart = shortest(same, bytes.Clone(a)), shortest(apart, b)
	}
	if apart < same/8 {
		t.Errorf("apart at the first byte: %v; the same: %v", apart, same)
	}
}
