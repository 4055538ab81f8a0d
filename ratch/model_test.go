package ratch_test

import (
	"bytes"
	"crypto/hkdf"
	"crypto/sha256"
	"encoding/binary"
	"encoding/hex"
	"fmt"
	"slices"
	"testing"

	"pyx/api"
	"pyx/ratch"
)

const (
	least    = -1 << 63  // the least number that there is
	greatest = 1<<63 - 1 // the greatest one
	last     = 1<<32 - 3 // the last place that is taken
	full     = 1<<32 - 2 // the next place of a chain of which no more is taken, but its spares
)

// wrongLengths are such that no secret has: about 32, and others whose lowest bits are those of 32, and none.
var wrongLengths = []int{0, 1, 16, 31, 33, 63, 64, 96, 256, 288, 65536 + 32}

// counted is n bytes that rise by one, from the first one on.
func counted(n, first int) []byte {
	b := make([]byte, n)
	for i := range b {
		b[i] = byte(first + i)
	}
	return b
}

// sends are secrets of epochs, of which each is another one.
func sends() [][]byte {
	return [][]byte{counted(32, 1), make([]byte, 32), bytes.Repeat([]byte{0xff}, 32), counted(32, 200)}
}

// unhex is what a text of bytes tells.
func unhex(t *testing.T, s string) []byte {
	t.Helper()
	b, err := hex.DecodeString(s)
	if err != nil {
		t.Fatal(err)
	}
	return b
}

// labelOf is bytes of a secret, as the library has them.
func labelOf(secret []byte, label string, context []byte, n int) []byte {
	label = "MLS 1.0 " + label
	info := slices.Concat([]byte{byte(n >> 8), byte(n), byte(len(label))}, []byte(label), []byte{byte(len(context))}, context)
	out, err := hkdf.Expand(sha256.New, secret, string(info), n)
	if err != nil {
		panic(err)
	}
	return out
}

// leafOf is a leaf's secret, found by halving the leaves.
func leafOf(send []byte, n, i int) []byte {
	secret := labelOf(send, "tree", nil, 32)
	for n > 1 {
		n /= 2
		if i < n {
			secret = labelOf(secret, "left", nil, 32)
		} else {
			secret = labelOf(secret, "right", nil, 32)
			i -= n
		}
	}
	return secret
}

// line is the places from one on, one by one: the secret of each that was asked for.
type line struct {
	from    int
	secrets [][]byte
}

// lineFrom is the places from one on, of which that one has a secret.
func lineFrom(from int, secret []byte) *line {
	return &line{from: from, secrets: [][]byte{secret}}
}

// secret is the secret of a place.
func (l *line) secret(at int) []byte {
	for len(l.secrets) <= at-l.from {
		k := len(l.secrets) - 1
		l.secrets = append(l.secrets, labelOf(l.secrets[k], "next", contextOf(l.from+k), 32))
	}
	return bytes.Clone(l.secrets[at-l.from])
}

// lock is the lock of a place.
func (l *line) lock(at int) api.Lock {
	secret := l.secret(at)
	return api.Lock{At: at, Key: labelOf(secret, "key", contextOf(at), 32), Nonce: labelOf(secret, "nonce", contextOf(at), 12)}
}

// chain is the chain of which that is held, in memory of its own.
func (l *line) chain(h held) api.Chain {
	c := api.Chain{Next: h.next, Secret: l.secret(h.next)}
	for _, at := range h.spares {
		c.Spare = append(c.Spare, l.lock(at))
	}
	return c
}

// contextOf is a place as a number of 4 bytes.
func contextOf(at int) []byte { return binary.BigEndian.AppendUint32(nil, uint32(at)) }

// held is a chain, told by numbers: its next place, and those that are spares.
type held struct {
	next   int
	spares []int
}

// take is what is held behind a place's being taken.
func (h held) take(at int) (held, api.Errno) {
	if at < 0 || at > 1<<32-2 {
		return h, api.ErrArg
	}
	if k := slices.Index(h.spares, at); k >= 0 {
		return held{next: h.next, spares: slices.Concat(h.spares[:k], h.spares[k+1:])}, api.OK
	}
	if at < h.next {
		return h, api.ErrStale
	}
	if at-h.next > 100 || at+1 > 1<<32-2 {
		return h, api.ErrBig
	}
	all := slices.Concat(h.spares, span(h.next, at))
	return held{next: at + 1, spares: all[max(0, len(all)-32):]}, api.OK
}

// span is the places from one to one less than another.
func span(from, to int) []int {
	var out []int
	for at := from; at < to; at++ {
		out = append(out, at)
	}
	return out
}

// told is a chain as a text that tells all of it.
func told(c api.Chain) string { return fmt.Sprintf("%d %x %x", c.Next, c.Secret, c.Spare) }

// toldLock is a lock as a text that tells all of it.
func toldLock(l api.Lock) string { return fmt.Sprintf("%x", l) }

// cloned is a chain that shares no memory with another one.
func cloned(c api.Chain) api.Chain {
	c.Secret = bytes.Clone(c.Secret)
	c.Spare = slices.Clone(c.Spare)
	for k, l := range c.Spare {
		c.Spare[k].Key, c.Spare[k].Nonce = bytes.Clone(l.Key), bytes.Clone(l.Nonce)
	}
	return c
}

// isTaken asks that a place is taken, with its lock, and what is held then, and that the chain ahead is as it was.
func isTaken(t *testing.T, l *line, h held, at int, want held) {
	t.Helper()
	c := l.chain(h)
	got, lock, e := ratch.Take(c, at)
	if e != api.OK || told(got) != told(l.chain(want)) || toldLock(lock) != toldLock(l.lock(at)) {
		t.Errorf("%d of %v: %d, %s, lock %s; want %v, lock %s", at, h, e, told(got), toldLock(lock), want, toldLock(l.lock(at)))
	}
	if !ratch.Right(got) {
		t.Errorf("%d of %v: %s isn't right", at, h, told(got))
	}
	if told(c) != told(l.chain(h)) {
		t.Errorf("%d of %v: written into", at, h)
	}
}

// isUntaken asks that a place is refused, and that nothing comes but the error, and the chain as it was.
func isUntaken(t *testing.T, l *line, h held, at int, want api.Errno) {
	t.Helper()
	c := l.chain(h)
	got, lock, e := ratch.Take(c, at)
	if e != want || told(got) != told(l.chain(h)) || lock.At != 0 || lock.Key != nil || lock.Nonce != nil {
		t.Errorf("%d of %v: %d, %s, lock %s; want %d, and the chain as it was", at, h, e, told(got), toldLock(lock), want)
	}
	if told(c) != told(l.chain(h)) {
		t.Errorf("%d of %v: written into", at, h)
	}
}

// draws tells numbers that hang on the first one alone.
type draws uint64

// below is the next number, from 0 to one less than n.
func (d *draws) below(n int) int {
	*d = *d*6364136223846793005 + 1442695040888963407
	return int(uint64(*d)>>33) % n
}

// row is n drawn bytes.
func (d *draws) row(n int) []byte {
	b := make([]byte, n)
	for i := range b {
		b[i] = byte(d.below(256))
	}
	return b
}

// shuffled is numbers in a drawn order.
func (d *draws) shuffled(l []int) []int {
	l = slices.Clone(l)
	for i := range l {
		k := i + d.below(len(l)-i)
		l[i], l[k] = l[k], l[i]
	}
	return l
}
