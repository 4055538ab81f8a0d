package aes_test

import (
	"bytes"
	"slices"
	"sync"
	"testing"

	"pyx/aes"
	"pyx/api"
)

// call is one of the package's, of a key, and of so many bytes more.
type call struct {
	many int
	of   func(key, b []byte) ([][]byte, api.Errno)
}

// calls are all of the package's that answer rows.
func calls() map[string]call {
	one := func(b []byte, e api.Errno) ([][]byte, api.Errno) { return [][]byte{b}, e }
	return map[string]call{
		"Keys":           {0, func(key, b []byte) ([][]byte, api.Errno) { return aes.Keys(key) }},
		"Block":          {16, func(key, b []byte) ([][]byte, api.Errno) { return one(aes.Block(key, b)) }},
		"Stream":         {100, func(key, b []byte) ([][]byte, api.Errno) { return one(aes.Stream(key, key[:12], b)) }},
		"Stream of none": {0, func(key, b []byte) ([][]byte, api.Errno) { return one(aes.Stream(key, key[:12], b)) }},
		"Stream of one":  {1, func(key, b []byte) ([][]byte, api.Errno) { return one(aes.Stream(key, key[4:], b)) }},
		"Stream, nonce":  {12, func(key, b []byte) ([][]byte, api.Errno) { return one(aes.Stream(key, b, make([]byte, 40))) }},
	}
}

// R3: what is handed in stays as it was, with what lies behind it in the same memory.
func TestHandedInStays(t *testing.T) {
	for name, x := range calls() {
		a, b := filled(300), filled(300)
		x.of(a[:16], b[:x.many])
		x.of(a[:16], a[:x.many])
		x.of(a[:16], a[16:16+x.many])
		if !bytes.Equal(a, filled(300)) || !bytes.Equal(b, filled(300)) {
			t.Errorf("%s: written into, or behind", name)
		}
	}
}

// R3, R4: who writes into an answer, or into what was handed in, changes no other.
func TestNothingShared(t *testing.T) {
	for name, x := range calls() {
		a, b := filled(16), filled(x.many)
		first, e := x.of(a, b)
		want := slices.Concat(first...)
		for _, row := range first {
			clear(row[:cap(row)])
		}
		if e != api.OK || !bytes.Equal(a, filled(16)) || !bytes.Equal(b, filled(x.many)) {
			t.Errorf("%s: who writes into an answer writes into what was handed in (%d)", name, e)
		}
		second, _ := x.of(a, b)
		clear(a)
		clear(b)
		if !bytes.Equal(slices.Concat(second...), want) {
			t.Errorf("%s: then %x; want %x", name, second, want)
		}
	}
}

// R3: who writes into one of a key's rows, or behind it, changes no other one.
func TestRowsShareNothing(t *testing.T) {
	want := rowsOf(filled(16))
	for i := range want {
		rows, _ := aes.Keys(filled(16))
		clear(rows[i][:cap(rows[i])])
		rows[i] = want[i]
		if !slices.EqualFunc(rows, want, bytes.Equal) {
			t.Errorf("row %d: %x; want %x", i, rows, want)
		}
	}
}

// R4: what is asked at the same time is answered as what is asked alone.
func TestAtTheSameTime(t *testing.T) {
	for name, x := range calls() {
		want, _ := x.of(filled(16), filled(x.many))
		var all sync.WaitGroup
		for range 16 {
			all.Go(func() {
				for range 10 {
					if got, e := x.of(filled(16), filled(x.many)); e != api.OK || !slices.EqualFunc(got, want, bytes.Equal) {
						t.Errorf("%s: %x, %d; want %x", name, got, e, want)
					}
					if aes.Box(0x53) != 0xed {
						t.Error("Box")
					}
				}
			})
		}
		all.Wait()
	}
}
