package seal_test

import (
	"bytes"
	"slices"
	"sync"
	"testing"

	"pyx/api"
	"pyx/seal"
)

// call is one of the package's, of a key, a nonce, what bytes belong to, and these.
type call func(key, nonce, with, b []byte) ([][]byte, api.Errno)

// calls are all of the package's but Open, which has to be told what Seal made.
func calls() map[string]call {
	one := func(b []byte, e api.Errno) ([][]byte, api.Errno) { return [][]byte{b}, e }
	return map[string]call{
		"Halves": func(key, nonce, with, b []byte) ([][]byte, api.Errno) {
			lock, own, e := seal.Halves(key)
			return [][]byte{lock, own}, e
		},
		"Seal":      func(key, nonce, with, b []byte) ([][]byte, api.Errno) { return one(seal.Seal(key, nonce, with, b)) },
		"Seal none": func(key, nonce, with, b []byte) ([][]byte, api.Errno) { return one(seal.Seal(key, nonce, with, b[:0])) },
		"Seal, with none": func(key, nonce, with, b []byte) ([][]byte, api.Errno) {
			return one(seal.Seal(key, nonce, with[:0], b))
		},
		"At 0":      func(key, nonce, with, b []byte) ([][]byte, api.Errno) { return one(seal.At(nonce, 0)) },
		"At 1 << 9": func(key, nonce, with, b []byte) ([][]byte, api.Errno) { return one(seal.At(nonce, 1<<9)) },
	}
}

// R3: what is handed in stays as it was, with what lies behind it in the same memory.
func TestHandedInStays(t *testing.T) {
	for name, of := range calls() {
		for _, n := range []int{0, 1, 16, 17, 64} {
			a, b, c, d := filled(300), filled(300), filled(300), filled(300)
			of(a[:32], b[:12], c[:n], d[:n])
			of(a[:32], a[:12], a[:n], a[:n])
			of(a[:32], a[32:44], a[44:44+n], a[44+n:44+2*n])
			for _, own := range [][]byte{a, b, c, d} {
				if !bytes.Equal(own, filled(300)) {
					t.Errorf("%s of %d bytes: written into, or behind", name, n)
				}
			}
		}
	}
}

// R3: what is opened stays as it was, with what lies behind it, whether it is taken or not.
func TestOpenedStays(t *testing.T) {
	for _, n := range []int{0, 1, 16, 17, 64} {
		sealed, _ := seal.Seal(filled(32), filled(12), filled(5), filled(n))
		own := append(bytes.Clone(sealed), filled(100)...)
		was := bytes.Clone(own)
		seal.Open(filled(32), filled(12), filled(5), own[:n+32])
		seal.Open(filled(32), filled(12), filled(6), own[:n+32])
		seal.Open(filled(32), filled(12), filled(5), own[:31])
		got, e := seal.Open(filled(32), filled(12), filled(5), own[:n+32])
		clear(got[:cap(got)])
		if e != api.OK || !bytes.Equal(own, was) {
			t.Errorf("%d bytes: written into, or behind (%d)", n, e)
		}
		got, _ = seal.Open(filled(32), filled(12), filled(5), own[:n+32])
		clear(own)
		isRow(t, got, e, filled(n))
	}
}

// R3, R4: who writes into an answer, or into what was handed in, changes no other.
func TestNothingShared(t *testing.T) {
	for name, of := range calls() {
		for _, n := range []int{0, 1, 16, 64} {
			in := [][]byte{filled(32), filled(12), filled(n), filled(n)}
			was := [][]byte{filled(32), filled(12), filled(n), filled(n)}
			first, e := of(in[0], in[1], in[2], in[3])
			want := slices.Concat(first...)
			for _, row := range first {
				clear(row[:cap(row)])
			}
			if e != api.OK || !slices.EqualFunc(in, was, bytes.Equal) {
				t.Errorf("%s of %d bytes: who writes into an answer writes into what was handed in (%d)", name, n, e)
			}
			second, _ := of(in[0], in[1], in[2], in[3])
			for _, row := range in {
				clear(row)
			}
			if !bytes.Equal(slices.Concat(second...), want) {
				t.Errorf("%s of %d bytes: then %x; want %x", name, n, second, want)
			}
		}
	}
}

// R3: who writes into a key's one half, or behind it, doesn't change the other.
func TestHalvesShareNothing(t *testing.T) {
	wantLock, wantOwn := halvesElsewhere(t, filled(32))
	lock, own, e := seal.Halves(filled(32))
	clear(lock[:cap(lock)])
	isRow(t, own, e, wantOwn)
	lock, own, e = seal.Halves(filled(32))
	clear(own[:cap(own)])
	isRow(t, lock, e, wantLock)
}

// R4: what is asked at the same time is answered as what is asked alone.
func TestAtTheSameTime(t *testing.T) {
	sealed, _ := seal.Seal(filled(32), filled(12), filled(9), filled(70))
	for name, of := range calls() {
		want, _ := of(filled(32), filled(12), filled(9), filled(70))
		var all sync.WaitGroup
		for range 16 {
			all.Go(func() {
				for range 10 {
					if got, e := of(filled(32), filled(12), filled(9), filled(70)); e != api.OK || !slices.EqualFunc(got, want, bytes.Equal) {
						t.Errorf("%s: %x, %d; want %x", name, got, e, want)
					}
					got, e := seal.Open(filled(32), filled(12), filled(9), sealed)
					isRow(t, got, e, filled(70))
				}
			})
		}
		all.Wait()
	}
}
