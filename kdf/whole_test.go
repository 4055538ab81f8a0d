package kdf_test

import (
	"bytes"
	"sync"
	"testing"

	"pyx/api"
	"pyx/kdf"
)

// calls are all of the package's, of two rows.
func calls() map[string]func(a, b []byte) ([]byte, api.Errno) {
	return map[string]func(a, b []byte) ([]byte, api.Errno){
		"Extract":        func(a, b []byte) ([]byte, api.Errno) { return kdf.Extract(a, b), api.OK },
		"Expand":         func(a, b []byte) ([]byte, api.Errno) { return kdf.Expand(a, b, 100) },
		"Expand to none": func(a, b []byte) ([]byte, api.Errno) { return kdf.Expand(a, b, 0) },
		"Label":          func(a, b []byte) ([]byte, api.Errno) { return kdf.Label(a, "label", b, 100) },
		"Label of a row": func(a, b []byte) ([]byte, api.Errno) { return kdf.Label(a, string(b), nil, 32) },
		"Derive":         func(a, b []byte) ([]byte, api.Errno) { return kdf.Derive(a, string(b)) },
		"Pass":           func(a, b []byte) ([]byte, api.Errno) { return kdf.Pass(a, b, 3, 100) },
		"Pass, one":      func(a, b []byte) ([]byte, api.Errno) { return kdf.Pass(a, b, 1, 32) },
	}
}

// R3: what is handed in stays as it was, with what lies behind it in the same memory.
func TestHandedInStays(t *testing.T) {
	for name, call := range calls() {
		for _, n := range []int{0, 1, 32, 63, 64, 65, 128} {
			a, b := filled(300), filled(300)
			call(a[:n], b[:n])
			call(a[:n], a[:n])
			call(a[:n], a[n:])
			if !bytes.Equal(a, filled(300)) || !bytes.Equal(b, filled(300)) {
				t.Errorf("%s of %d bytes: written into, or behind", name, n)
			}
		}
	}
}

// R3, R4: who writes into an answer, or into what was handed in, changes no other.
func TestNothingShared(t *testing.T) {
	for name, call := range calls() {
		for _, n := range []int{0, 1, 32, 64, 65} {
			a, b := filled(n), filled(n)
			first, e := call(a, b)
			want := bytes.Clone(first)
			clear(first[:cap(first)])
			if e != api.OK || !bytes.Equal(a, filled(n)) || !bytes.Equal(b, filled(n)) {
				t.Errorf("%s of %d bytes: who writes into an answer writes into what was handed in (%d)", name, n, e)
			}
			second, _ := call(a, b)
			clear(a)
			clear(b)
			if !bytes.Equal(second, want) {
				t.Errorf("%s of %d bytes: then %x; want %x", name, n, second, want)
			}
		}
	}
}

// R4: what is asked at the same time is answered as what is asked alone.
func TestAtTheSameTime(t *testing.T) {
	for name, call := range calls() {
		want, _ := call(filled(40), filled(70))
		var all sync.WaitGroup
		for range 16 {
			all.Go(func() {
				for range 10 {
					if got, e := call(filled(40), filled(70)); e != api.OK || !bytes.Equal(got, want) {
						t.Errorf("%s: %x, %d; want %x", name, got, e, want)
					}
				}
			})
		}
		all.Wait()
	}
}
