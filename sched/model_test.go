package sched_test

import (
	"bytes"
	"crypto/hkdf"
	"crypto/hmac"
	"crypto/sha256"
	"encoding/binary"
	"encoding/hex"
	"slices"
	"strings"
	"testing"

	"pyx/api"
)

const (
	least    = -1 << 63  // the least number that there is
	greatest = 1<<63 - 1 // the greatest one
)

// wrongLengths are such that no secret, digest or log has: about 32, and others whose lowest bits are those of 32, and none.
var wrongLengths = []int{0, 1, 16, 31, 33, 63, 64, 96, 256, 288, 65536 + 32}

// edges are lengths about the edges of a row's length, and of a digest's block.
var edges = []int{0, 1, 31, 32, 33, 55, 56, 62, 63, 64, 65, 128, 1000, 16383, 16384}

// counted is n bytes that rise by one, from the first one on.
func counted(n, first int) []byte {
	b := make([]byte, n)
	for i := range b {
		b[i] = byte(first + i)
	}
	return b
}

// full is n bytes ff.
func full(n int) []byte { return bytes.Repeat([]byte{0xff}, n) }

// unhex is what a text of bytes tells.
func unhex(t *testing.T, s string) []byte {
	t.Helper()
	b, err := hex.DecodeString(s)
	if err != nil {
		t.Fatal(err)
	}
	return b
}

// isRow asks that a call answered these bytes, without an error.
func isRow(t *testing.T, got []byte, e api.Errno, want []byte, what ...any) {
	t.Helper()
	if e != api.OK || !bytes.Equal(got, want) {
		t.Errorf("%v: %d bytes %.80x, %d; want %d bytes %.80x", what, len(got), got, e, len(want), want)
	}
}

// isRefused asks that a call answered ErrArg, and nothing beside it.
func isRefused(t *testing.T, got []byte, e api.Errno, what ...any) {
	t.Helper()
	if e != api.ErrArg || got != nil {
		t.Errorf("%v: %d bytes %.80x, %d; want none, ErrArg", what, len(got), got, e)
	}
}

// isEpoch asks that a call answered these secrets, without an error.
func isEpoch(t *testing.T, got api.Epoch, e api.Errno, want api.Epoch, what ...any) {
	t.Helper()
	for i, x := range parts(&want) {
		isRow(t, *parts(&got)[i], e, *x, append(what, "secret", i)...)
	}
}

// isNoEpoch asks that a call answered ErrArg, and no secret beside it.
func isNoEpoch(t *testing.T, got api.Epoch, e api.Errno, what ...any) {
	t.Helper()
	for i, x := range parts(&got) {
		isRefused(t, *x, e, append(what, "secret", i)...)
	}
}

// parts are where an epoch's five secrets stand.
func parts(e *api.Epoch) [5]*[]byte {
	return [5]*[]byte{&e.Init, &e.Send, &e.Export, &e.Confirm, &e.Resume}
}

// cloned is an epoch that shares no memory with another one.
func cloned(e api.Epoch) api.Epoch {
	for _, x := range parts(&e) {
		*x = bytes.Clone(*x)
	}
	return e
}

// someEpoch is an epoch's secrets, that are right, each one another one.
func someEpoch(first int) api.Epoch {
	var e api.Epoch
	for i, x := range parts(&e) {
		*x = counted(32, first+40*i)
	}
	return e
}

// wrongEpochs are such that one secret has not 32 bytes: each of the five.
func wrongEpochs() []api.Epoch {
	var out []api.Epoch
	for i := range 5 {
		for _, n := range wrongLengths {
			e := someEpoch(9)
			*parts(&e)[i] = counted(n, 9)
			out = append(out, e)
		}
		e := someEpoch(9)
		*parts(&e)[i] = nil
		out = append(out, e)
	}
	return append(out, api.Epoch{})
}

// numberOf is a number of w bytes.
func numberOf(n, w int) []byte {
	return binary.BigEndian.AppendUint64(nil, uint64(n))[8-w:]
}

// rowOf is a row, of less than 2^30 bytes.
func rowOf(x []byte) []byte {
	head := numberOf(len(x), 1)
	switch {
	case len(x) >= 16384:
		head = numberOf(len(x)+2<<30, 4)
	case len(x) >= 64:
		head = numberOf(len(x)+1<<14, 2)
	}
	return append(head, x...)
}

// sumOf is the library's digest of parts one behind the other.
func sumOf(parts ...[]byte) []byte {
	sum := sha256.Sum256(slices.Concat(parts...))
	return sum[:]
}

// tagOf is the library's tag.
func tagOf(key, b []byte) []byte {
	h := hmac.New(sha256.New, key)
	h.Write(b)
	return h.Sum(nil)
}

// labelOf is bytes of a secret, as the library has them.
func labelOf(secret []byte, label string, context []byte, n int) []byte {
	info := slices.Concat(numberOf(n, 2), rowOf([]byte("MLS 1.0 "+label)), rowOf(context))
	out, err := hkdf.Expand(sha256.New, secret, string(info), n)
	if err != nil {
		panic(err)
	}
	return out
}

// contextOf is what an epoch belongs to.
func contextOf(group []byte, epoch int, tree, log []byte) []byte {
	return slices.Concat(rowOf(group), numberOf(epoch, 6), rowOf(tree), rowOf(log))
}

// joinerOf is the secret of who joins.
func joinerOf(init, last, context []byte) []byte {
	return labelOf(tagOf(init, last), "joiner", context, 32)
}

// sharedOf is one secret of those that are shared beforehand.
func sharedOf(l [][]byte) []byte {
	one := make([]byte, 32)
	for i, secret := range l {
		one = tagOf(one, labelOf(secret, "shared", numberOf(i, 2), 32))
	}
	return one
}

// epochOf is an epoch's secrets.
func epochOf(joiner, shared, context []byte) api.Epoch {
	own := labelOf(tagOf(joiner, shared), "epoch", context, 32)
	return api.Epoch{
		Init:    labelOf(own, "init", nil, 32),
		Send:    labelOf(own, "send", nil, 32),
		Export:  labelOf(own, "export", nil, 32),
		Confirm: labelOf(own, "confirm", nil, 32),
		Resume:  labelOf(own, "resume", nil, 32),
	}
}

// logOf is a log with something more.
func logOf(log, confirm, b []byte) []byte { return sumOf(rowOf(log), rowOf(confirm), rowOf(b)) }

// exportOf is a secret for others.
func exportOf(e api.Epoch, label string, context []byte, n int) []byte {
	return labelOf(labelOf(e.Export, label, nil, 32), "exported", sumOf(context), n)
}

// somePairs are two rows of 32 bytes, of which each is another one.
func somePairs() [][2][]byte {
	zeros := make([]byte, 32)
	return [][2][]byte{
		{counted(32, 1), counted(32, 50)},
		{counted(32, 50), counted(32, 1)},
		{zeros, full(32)},
		{full(32), zeros},
		{zeros, zeros},
		{full(32), full(32)},
		{counted(32, 1), counted(32, 1)},
	}
}

// someContexts are contexts of all lengths: those of epochs, and others.
func someContexts() [][]byte {
	out := [][]byte{nil, contextOf([]byte{7, 8}, 258, counted(32, 1), counted(32, 101)), contextOf(nil, 0, counted(32, 1), counted(32, 101)), contextOf(full(255), 1<<48-1, full(32), full(32))}
	for _, n := range edges {
		out = append(out, counted(n, n))
	}
	return out
}

// someLabels are labels of all lengths: with what stands ahead of them 63 and 64 bytes, 16383 and 16384 are edges of a length; and such whose signs have more than one byte, or are none at all.
func someLabels() []string {
	out := []string{"", "\x00", "x", "call", "export", "exported", "MLS 1.0 ", "Ümläut ∀", "\xff\xfe\x80"}
	for _, n := range []int{54, 55, 56, 57, 63, 64, 16375, 16376, 16384} {
		out = append(out, strings.Repeat("l", n))
	}
	return out
}

// draws tells numbers that hang on the first one alone.
type draws uint64

// below is the next number, from 0 to one less than n.
func (d *draws) below(n int) int {
	*d = *d*6364136223846793005 + 1442695040888963407
	return int(uint64(*d)>>33) % n
}

// row is n drawn bytes.
func (d *draws) row(n int) []byte {
	b := make([]byte, n)
	for i := range b {
		b[i] = byte(d.below(256))
	}
	return b
}
