package sig_test

import (
	"bytes"
	"slices"
	"sync"
	"testing"

	"pyx/api"
	"pyx/sig"
)

// call is one of the package's, of two rows of 32 bytes and two others.
type call func(first, second, info, b []byte) ([][]byte, api.Errno)

// calls are all of the package's but Verify, which answers no bytes, and Unwrap, which has to be told what Wrap made.
func calls() map[string]call {
	one := func(b []byte, e api.Errno) ([][]byte, api.Errno) { return [][]byte{b}, e }
	wrap := func(public, once, info, b []byte) ([][]byte, api.Errno) {
		half, box, e := sig.Wrap(public, once, info, b)
		return [][]byte{half, box}, e
	}
	return map[string]call{
		"Public": func(first, second, info, b []byte) ([][]byte, api.Errno) { return one(sig.Public(first)) },
		"Sign": func(first, second, info, b []byte) ([][]byte, api.Errno) {
			return one(sig.Sign(first, string(info), b))
		},
		"Sign none": func(first, second, info, b []byte) ([][]byte, api.Errno) { return one(sig.Sign(first, "leaf", b[:0])) },
		"Wrap":      wrap,
		"Wrap none": func(first, second, info, b []byte) ([][]byte, api.Errno) { return wrap(first, second, info, b[:0]) },
		"Wrap without info": func(first, second, info, b []byte) ([][]byte, api.Errno) {
			return wrap(first, second, info[:0], b)
		},
	}
}

// R3: what is handed in stays as it was, with what lies behind it in the same memory.
func TestHandedInStays(t *testing.T) {
	for name, of := range calls() {
		for _, n := range []int{0, 1, 32, 33, 64} {
			a, b, c, d := filled(300), filled(300), filled(300), filled(300)
			of(a[:32], b[:32], c[:n], d[:n])
			of(a[:32], a[:32], a[:n], a[:n])
			of(a[:32], a[32:64], a[64:64+n], a[64+n:64+2*n])
			for _, own := range [][]byte{a, b, c, d} {
				if !bytes.Equal(own, filled(300)) {
					t.Errorf("%s of %d bytes: written into, or behind", name, n)
				}
			}
		}
	}
}

// R3: what is verified stays as it was, with what lies behind it, whether it is right or not.
func TestVerifiedStays(t *testing.T) {
	for _, n := range []int{0, 1, 32, 33, 64} {
		public := append(publicOf(t, filled(32)), filled(100)...)
		sign := append(signOf(t, filled(32), "leaf", filled(n)), filled(100)...)
		b := filled(300)
		wasPublic, wasSign := bytes.Clone(public), bytes.Clone(sign)
		isErrno(t, sig.Verify(public[:32], "leaf", b[:n], sign[:32]), api.OK)
		isErrno(t, sig.Verify(public[:32], "lea", b[:n], sign[:32]), api.ErrKey)
		isErrno(t, sig.Verify(public[:32], "leaf", b[:n], sign[:31]), api.ErrKey)
		isErrno(t, sig.Verify(public[:31], "leaf", b[:n], sign[:32]), api.ErrArg)
		if !bytes.Equal(public, wasPublic) || !bytes.Equal(sign, wasSign) || !bytes.Equal(b, filled(300)) {
			t.Errorf("%d bytes: written into, or behind", n)
		}
	}
}

// R3: what is unwrapped stays as it was, with what lies behind it, whether it is taken or not, and shares nothing with what came out.
func TestUnwrappedStays(t *testing.T) {
	for _, n := range []int{0, 1, 16, 17, 64} {
		seed, half, box := wrapped(t, []byte("info"), filled(n))
		own := slices.Concat(seed, half, box, filled(100))
		was := bytes.Clone(own)
		unwrap := func(info string, end int) ([]byte, api.Errno) {
			return sig.Unwrap(own[:32], own[32:64], []byte(info), own[64:end])
		}
		unwrap("inf", 96+n)
		unwrap("info", 64)
		unwrap("info", 97+n)
		got, e := unwrap("info", 96+n)
		clear(got[:cap(got)])
		if e != api.OK || !bytes.Equal(own, was) {
			t.Errorf("%d bytes: written into, or behind (%d)", n, e)
		}
		got, e = unwrap("info", 96+n)
		clear(own)
		isRow(t, got, e, filled(n))
	}
}

// R3, R4: who writes into an answer, or into what was handed in, changes no other.
func TestNothingShared(t *testing.T) {
	for name, of := range calls() {
		for _, n := range []int{0, 1, 32, 64} {
			in := [][]byte{filled(32), counted(32, 9), filled(n), filled(n)}
			was := [][]byte{filled(32), counted(32, 9), filled(n), filled(n)}
			first, e := of(in[0], in[1], in[2], in[3])
			want := slices.Concat(first...)
			for _, row := range first {
				clear(row[:cap(row)])
			}
			if e != api.OK || !slices.EqualFunc(in, was, bytes.Equal) {
				t.Errorf("%s of %d bytes: who writes into an answer writes into what was handed in (%d)", name, n, e)
			}
			second, _ := of(in[0], in[1], in[2], in[3])
			for _, row := range in {
				clear(row)
			}
			if !bytes.Equal(slices.Concat(second...), want) {
				t.Errorf("%s of %d bytes: then %x; want %x", name, n, second, want)
			}
		}
	}
}

// R3: who writes into the half that Wrap answers, or behind it, doesn't change what is wrapped, nor the other way.
func TestWrappedSharesNothing(t *testing.T) {
	for _, n := range []int{0, 1, 32, 64} {
		wantHalf, wantBox := wrappedElsewhere(t, filled(32), counted(32, 9), nil, filled(n))
		half, box, e := sig.Wrap(filled(32), counted(32, 9), nil, filled(n))
		clear(half[:cap(half)])
		isRow(t, box, e, wantBox)
		half, box, e = sig.Wrap(filled(32), counted(32, 9), nil, filled(n))
		clear(box[:cap(box)])
		isRow(t, half, e, wantHalf)
	}
}

// R4: what is asked at the same time is answered as what is asked alone.
func TestAtTheSameTime(t *testing.T) {
	seed, half, box := wrapped(t, []byte("info"), filled(70))
	public, sign := publicOf(t, seed), signOf(t, seed, "leaf", filled(70))
	for name, of := range calls() {
		want, _ := of(filled(32), counted(32, 9), filled(9), filled(70))
		var all sync.WaitGroup
		for range 16 {
			all.Go(func() {
				for range 10 {
					if got, e := of(filled(32), counted(32, 9), filled(9), filled(70)); e != api.OK || !slices.EqualFunc(got, want, bytes.Equal) {
						t.Errorf("%s: %x, %d; want %x", name, got, e, want)
					}
					isErrno(t, sig.Verify(public, "leaf", filled(70), sign), api.OK)
					got, e := sig.Unwrap(seed, half, []byte("info"), box)
					isRow(t, got, e, filled(70))
				}
			})
		}
		all.Wait()
	}
}
