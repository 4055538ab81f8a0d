package mac_test

import (
	"bytes"
	"slices"
	"sync"
	"testing"

	"pyx/mac"
)

// R3: what is handed in stays as it was, with what lies behind it in the same memory: bytes, and rows of a list.
func TestHandedInStays(t *testing.T) {
	for _, n := range []int{0, 1, 32, 63, 64, 65, 128} {
		key, b := filled(300), filled(300)
		l := [][]byte{b[:0], b[:n], b[n : n+1], b[299:], []byte("behind"), []byte("the list")}
		mac.Key(key[:n])
		mac.Sum(key[:n], b[:n])
		mac.All(key[:n], l[:4])
		mac.All(key[:n], l[:0])
		mac.Same(key[:n], b[:n])
		if !bytes.Equal(key, filled(300)) || !bytes.Equal(b, filled(300)) {
			t.Errorf("%d bytes: written into, or behind", n)
		}
		if !slices.EqualFunc(l, [][]byte{nil, filled(n), filled(300)[n : n+1], filled(300)[299:], []byte("behind"), []byte("the list")}, bytes.Equal) {
			t.Errorf("%d bytes: the list is another one: %q", n, l)
		}
	}
}

// R3, R4: who writes into an answer, or into what was handed in, changes no other.
func TestNothingShared(t *testing.T) {
	for _, n := range []int{0, 1, 63, 64, 65} {
		key, b := filled(n), filled(n)
		block, tag, all := mac.Key(key), mac.Sum(key, b), mac.All(key, [][]byte{b})
		wantBlock, wantTag := bytes.Clone(block), bytes.Clone(tag)
		clear(block[:cap(block)])
		clear(tag[:cap(tag)])
		clear(all[:cap(all)])
		if !bytes.Equal(key, filled(n)) || !bytes.Equal(b, filled(n)) {
			t.Errorf("%d bytes: who writes into an answer writes into what was handed in", n)
		}
		block, tag, all = mac.Key(key), mac.Sum(key, b), mac.All(key, [][]byte{b})
		clear(key)
		clear(b)
		if !bytes.Equal(block, wantBlock) || !bytes.Equal(tag, wantTag) || !bytes.Equal(all, wantTag) {
			t.Errorf("%d bytes: an answer is another one, when something else is written into", n)
		}
	}
}

// R3: one row may be the key, and what is tagged, and stand in a list more than once.
func TestOneRowInAllPlaces(t *testing.T) {
	for _, n := range []int{0, 1, 63, 64, 65} {
		b := filled(n)
		isSum(t, b, b)
		isAll(t, b, [][]byte{b, b, b[n:], b})
	}
}

// R4: what is asked at the same time is answered as what is asked alone.
func TestAtTheSameTime(t *testing.T) {
	key, b := filled(70), filled(130)
	var all sync.WaitGroup
	for n := range 64 {
		all.Go(func() {
			for range 20 {
				isSum(t, key[:n], b[n:])
				isAll(t, key[n:], [][]byte{b[:n], nil, b[n:]})
				isSame(t, b[:n], filled(n), true)
			}
		})
	}
	all.Wait()
}
