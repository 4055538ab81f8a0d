package sched_test

import (
	"bytes"
	"testing"

	"pyx/api"
	"pyx/sched"
)

// isSame asks whether two epochs are the same, whichever is told first.
func isSame(t *testing.T, a, b api.Epoch, want bool, what ...any) {
	t.Helper()
	if sched.Same(a, b) != want || sched.Same(b, a) != want {
		t.Errorf("%v: same: %v, and the other way %v; want %v", what, sched.Same(a, b), sched.Same(b, a), want)
	}
}

// P12.4: an epoch is the same as itself, and as one that shares nothing with it, whether its secrets are right or not.
func TestSame(t *testing.T) {
	for _, e := range append(wrongEpochs(), someEpoch(1), epochOf(counted(32, 1), full(32), nil)) {
		isSame(t, e, e, true)
		isSame(t, e, cloned(e), true)
	}
}

// P12.4: secrets of no byte are the same, whether they are nil or not; those of bytes 00 aren't.
func TestSameOfNoByte(t *testing.T) {
	for i := range 5 {
		a, b, zeros := someEpoch(1), someEpoch(1), someEpoch(1)
		*parts(&a)[i], *parts(&b)[i], *parts(&zeros)[i] = nil, []byte{}, make([]byte, 32)
		isSame(t, a, b, true, "secret", i)
		isSame(t, a, zeros, false, "secret", i)
		isSame(t, a, someEpoch(1), false, "secret", i)
	}
	isSame(t, api.Epoch{}, api.Epoch{Init: []byte{}, Send: []byte{}, Export: []byte{}, Confirm: []byte{}, Resume: []byte{}}, true)
	isSame(t, api.Epoch{}, someEpoch(1), false)
}

// P12.4: two that differ in one byte of one secret, or in how many bytes it has.
func TestSameOfOneSecret(t *testing.T) {
	of := someEpoch(1)
	for i := range 5 {
		for at := range 32 {
			for bit := range 8 {
				other := cloned(of)
				(*parts(&other)[i])[at] ^= 1 << bit
				isSame(t, of, other, false, "secret", i, "byte", at, "bit", bit)
			}
		}
		for _, change := range []func(x []byte) []byte{
			func(x []byte) []byte { return x[:31] },
			func(x []byte) []byte { return x[1:] },
			func(x []byte) []byte { return x[:1] },
			func(x []byte) []byte { return append(x, 0) },
			func(x []byte) []byte { return append(x, x...) },
			func(x []byte) []byte { return append([]byte{0}, x...) },
			func(x []byte) []byte { return nil },
		} {
			other := cloned(of)
			x := parts(&other)[i]
			*x = change(*x)
			isSame(t, of, other, false, "secret", i, "of", len(*x))
		}
	}
}

// P12.4: two that differ in two secrets, so that what differs is the same in both; and two whose secrets are those of the other in other places.
func TestSameOfTwoSecrets(t *testing.T) {
	of := someEpoch(1)
	for i := range 5 {
		for k := range i {
			other := cloned(of)
			(*parts(&other)[i])[3] ^= 4
			(*parts(&other)[k])[3] ^= 4
			isSame(t, of, other, false, "secrets", i, k)
			other = cloned(of)
			*parts(&other)[i], *parts(&other)[k] = *parts(&other)[k], *parts(&other)[i]
			isSame(t, of, other, false, "secrets", i, k, "in other places")
		}
	}
}

// P12.4: two whose secrets are the same one behind the other, but are parted at other places.
func TestSameOfPartedElsewhere(t *testing.T) {
	of := someEpoch(1)
	for i := range 4 {
		other := cloned(of)
		first, second := parts(&other)[i], parts(&other)[i+1]
		*first, *second = append(*first, (*second)[0]), (*second)[1:]
		isSame(t, of, other, false, "secrets", i)
	}
}

// P12.4: epochs that come of rows are the same if those are.
func TestSameOfEpochs(t *testing.T) {
	var all []api.Epoch
	for _, p := range somePairs() {
		for _, context := range [][]byte{nil, {0}, counted(75, 4)} {
			e, _ := sched.Epoch(p[0], p[1], context)
			again, _ := sched.Epoch(bytes.Clone(p[0]), bytes.Clone(p[1]), bytes.Clone(context))
			isSame(t, e, again, true)
			all = append(all, e)
		}
	}
	for i, a := range all {
		for k, b := range all {
			isSame(t, a, b, i == k, i, k)
		}
	}
}
