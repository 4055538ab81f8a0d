package ratch_test

import (
	"bytes"
	"slices"
	"testing"

	"pyx/api"
	"pyx/ratch"
)

// isSame asks whether two chains are the same, either way round, and that they are as they were then.
func isSame(t *testing.T, a, b api.Chain, want bool, what ...any) {
	t.Helper()
	one, other := told(a), told(b)
	if ratch.Same(a, b) != want || ratch.Same(b, a) != want {
		t.Errorf("%v: %s and %s: want the same: %v", what, one, other, want)
	}
	if told(a) != one || told(b) != other {
		t.Errorf("%v: written into", what)
	}
}

// someChains are right ones and wrong ones, of which each is another one.
func someChains() []api.Chain {
	out := []api.Chain{{}, {Next: 1}, {Next: -1}, {Next: greatest}, {Next: least}, {Secret: []byte{0}}, {Spare: []api.Lock{{}}}, {Spare: []api.Lock{{}, {}}}}
	for _, next := range []int{0, 100, 1 << 32, last, full} {
		out = append(out, chainOf(next), chainOf(next, 0), chainOf(next, 0, 1), chainOf(next, 1, 0), chainOf(next, span(0, 32)...), chainOf(next, span(0, 33)...))
	}
	return out
}

// P13.1: of any chains, each is the same as itself, and as one that is so in other memory, and as no other one.
func TestSame(t *testing.T) {
	for i, a := range someChains() {
		for k, b := range someChains() {
			isSame(t, a, b, i == k, i, k)
		}
		isSame(t, a, cloned(a), true, i)
	}
}

// P13.1: rows without elements are the same, whether they are nil or not.
func TestSameOfNone(t *testing.T) {
	isSame(t, api.Chain{}, api.Chain{Secret: []byte{}, Spare: []api.Lock{}}, true)
	a, b := chainOf(9, 3), chainOf(9, 3)
	a.Spare[0].Key, b.Spare[0].Key = nil, []byte{}
	a.Spare[0].Nonce, b.Spare[0].Nonce = []byte{}, nil
	isSame(t, a, b, true)
	isSame(t, a, chainOf(9, 3), false)
	isSame(t, a, chainOf(9), false)
}

// P13.1: two that differ in one number.
func TestSameOfNumbers(t *testing.T) {
	of := chainOf(100, 5, 6, 50, 99)
	for bit := range 64 {
		other := cloned(of)
		other.Next ^= 1 << bit
		isSame(t, of, other, false, "next, bit", bit)
		for k := range of.Spare {
			other := cloned(of)
			other.Spare[k].At ^= 1 << bit
			isSame(t, of, other, false, "place of spare", k, "bit", bit)
		}
	}
}

// P13.1: two that differ in one byte of one row, or in how many bytes it has: the secret, each spare's key, and each one's nonce.
func TestSameOfBytes(t *testing.T) {
	of := chainOf(100, 5, 6, 50, 99)
	rows := func(c *api.Chain) []*[]byte {
		out := []*[]byte{&c.Secret}
		for k := range c.Spare {
			out = append(out, &c.Spare[k].Key, &c.Spare[k].Nonce)
		}
		return out
	}
	for k, row := range rows(&of) {
		for at := range *row {
			for bit := range 8 {
				other := cloned(of)
				(*rows(&other)[k])[at] ^= 1 << bit
				isSame(t, of, other, false, "row", k, "byte", at, "bit", bit)
			}
		}
		for _, changed := range [][]byte{nil, (*row)[1:], (*row)[:len(*row)-1], append(bytes.Clone(*row), 0), append([]byte{0}, *row...), slices.Concat(*row, *row)} {
			other := cloned(of)
			*rows(&other)[k] = changed
			isSame(t, of, other, false, "row", k, "has", len(changed))
		}
	}
}

// P13.1: two of which one has a spare more, at each place; or the same ones in another order.
func TestSameOfSpares(t *testing.T) {
	of := chainOf(100, 5, 6, 50, 99)
	for k := range of.Spare {
		less := cloned(of)
		less.Spare = slices.Delete(less.Spare, k, k+1)
		isSame(t, of, less, false, "without", k)
		more := cloned(of)
		more.Spare = slices.Insert(more.Spare, k, of.Spare[k])
		isSame(t, of, more, false, "twice", k)
		for other := range k {
			turned := cloned(of)
			turned.Spare[k], turned.Spare[other] = turned.Spare[other], turned.Spare[k]
			isSame(t, of, turned, false, k, "and", other, "turned")
		}
	}
	more := cloned(of)
	more.Spare = append(more.Spare, api.Lock{})
	isSame(t, of, more, false, "one of nothing more")
	isSame(t, of, chainOf(100), false, "none")
}

// P13.1: two whose bytes are the same one behind the other, but are parted at other places.
func TestSameOfPartedElsewhere(t *testing.T) {
	of := chainOf(100, 5, 6)
	for k := range of.Spare {
		other := cloned(of)
		l := &other.Spare[k]
		l.Key, l.Nonce = append(l.Key, l.Nonce[0]), l.Nonce[1:]
		isSame(t, of, other, false, "spare", k)
		other = cloned(of)
		l = &other.Spare[k]
		l.Key, l.Nonce = l.Nonce, l.Key
		isSame(t, of, other, false, "spare", k, "its rows turned")
	}
}

// P13.1: chains that come of one secret are the same if the same places were taken of them, in whatever order.
func TestSameOfTaken(t *testing.T) {
	send := counted(32, 5)
	take := func(i int, places ...int) api.Chain {
		c, _ := ratch.Start(send, 4, i)
		for _, at := range places {
			c, _, _ = ratch.Take(c, at)
		}
		return c
	}
	isSame(t, take(1), take(1), true)
	isSame(t, take(1), take(2), false)
	isSame(t, take(1, 0), take(1), false)
	isSame(t, take(1, 0, 1, 2), take(1, 2, 0, 1), true)
	isSame(t, take(1, 2, 0), take(1, 0, 2), true)
	isSame(t, take(1, 2, 0), take(1, 2, 1), false)
	isSame(t, take(1, 2, 0), take(3, 2, 0), false)
	isSame(t, take(1, 40), take(1, 40, 0), true) // 0 was dropped
	isSame(t, take(1, 40), take(1, 39, 40), false)
}
