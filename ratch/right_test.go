package ratch_test

import (
	"bytes"
	"testing"

	"pyx/api"
	"pyx/ratch"
)

// spare is a lock of a place, that may be a spare.
func spare(at int) api.Lock {
	return api.Lock{At: at, Key: counted(32, at), Nonce: counted(12, at)}
}

// chainOf is a chain of a next place, and of spares.
func chainOf(next int, spares ...int) api.Chain {
	c := api.Chain{Next: next, Secret: counted(32, next)}
	for _, at := range spares {
		c.Spare = append(c.Spare, spare(at))
	}
	return c
}

// isRight asks whether a chain is right, and that it is as it was then.
func isRight(t *testing.T, c api.Chain, want bool, what ...any) {
	t.Helper()
	was := told(c)
	if got := ratch.Right(c); got != want {
		t.Errorf("%v: %v; want %v: %s", what, got, want, told(c))
	}
	if told(c) != was {
		t.Errorf("%v: written into", what)
	}
}

// P13.1: next places from 0 to 2^32 - 2, and others.
func TestRightNext(t *testing.T) {
	for _, next := range []int{0, 1, 2, 32, 100, 1 << 16, 1 << 31, last, full} {
		isRight(t, chainOf(next), true, "next", next)
		c := chainOf(next)
		c.Spare = []api.Lock{}
		isRight(t, c, true, "next", next, "and a row of no spares")
	}
	for _, next := range []int{-1, -2, -1 << 31, -1 << 32, least, full + 1, full + 2, 1 << 33, 1<<40 + 5, greatest} {
		isRight(t, chainOf(next), false, "next", next)
		isRight(t, chainOf(next, 0), false, "next", next, "and a spare")
	}
}

// P13.1: a secret of 31 and of 33 bytes, and of others.
func TestRightSecret(t *testing.T) {
	for _, many := range wrongLengths {
		for _, c := range []api.Chain{chainOf(0), chainOf(50, 3, 4, 49)} {
			c.Secret = counted(many, 1)
			isRight(t, c, false, "a secret of", many)
			c.Secret = nil
			isRight(t, c, false, "no secret")
		}
	}
	isRight(t, api.Chain{Secret: make([]byte, 32)}, true, "a secret of bytes 00")
	isRight(t, api.Chain{}, false, "nothing")
}

// P13.1: up to 32 spares, and 33; one beside another, or far from it.
func TestRightSpares(t *testing.T) {
	for many := range 33 {
		isRight(t, chainOf(32, span(0, many)...), true, many)
		isRight(t, chainOf(32, span(32-many, 32)...), true, many)
		isRight(t, chainOf(full, span(full-many, full)...), true, many)
	}
	for many := 33; many < 70; many++ {
		isRight(t, chainOf(many, span(0, many)...), false, many)
		isRight(t, chainOf(full, span(full-many, full)...), false, many)
	}
	isRight(t, chainOf(1, 0), true)
	isRight(t, chainOf(1000, 0, 999), true)
	isRight(t, chainOf(full, 0, 1<<31, last-1, last), true)
}

// P13.1: spares out of order, twice the same place, at the next place and behind it, below 0: wherever among them that is.
func TestRightPlaces(t *testing.T) {
	spares := []int{0, 1, 10, 20, 98, 99}
	isRight(t, chainOf(100, spares...), true)
	for k := range spares {
		for _, at := range []int{-1, -100, least, 100, 101, 1 << 32, 1<<32 + 5, greatest} {
			wrong := append([]int{}, spares...)
			wrong[k] = at
			isRight(t, chainOf(100, wrong...), false, "place", k, "is", at)
		}
		for other := range k {
			wrong := append([]int{}, spares...)
			wrong[k] = spares[other]
			isRight(t, chainOf(100, wrong...), false, "place", k, "is that of", other)
			wrong[other] = spares[k]
			isRight(t, chainOf(100, wrong...), false, "places", k, "and", other, "are one another's")
		}
	}
	isRight(t, chainOf(0, 0), false)
	isRight(t, chainOf(0, -1), false)
	isRight(t, chainOf(1, 1), false)
	isRight(t, chainOf(1, 0, 0), false)
	isRight(t, chainOf(5, 3, 2), false)
	isRight(t, chainOf(full, full), false)
	isRight(t, chainOf(full, full+1), false)
}

// P13.1: a key of 31 bytes, a nonce of 13, and others: of each spare.
func TestRightLocks(t *testing.T) {
	for k := range 4 {
		for _, many := range append(wrongLengths, 12) {
			c := chainOf(100, 5, 6, 50, 99)
			c.Spare[k].Key = counted(many, 1)
			isRight(t, c, false, "the key of", k, "has", many)
		}
		for _, many := range []int{0, 1, 11, 13, 16, 24, 32, 256 + 12} {
			c := chainOf(100, 5, 6, 50, 99)
			c.Spare[k].Nonce = counted(many, 1)
			isRight(t, c, false, "the nonce of", k, "has", many)
		}
		c := chainOf(100, 5, 6, 50, 99)
		c.Spare[k].Key = nil
		isRight(t, c, false, "no key of", k)
		c = chainOf(100, 5, 6, 50, 99)
		c.Spare[k].Nonce = nil
		isRight(t, c, false, "no nonce of", k)
		c.Spare[k].Nonce = make([]byte, 12)
		c.Spare[k].Key = bytes.Repeat([]byte{0xff}, 32)
		isRight(t, c, true, "bytes 00, and ff, of", k)
	}
}
