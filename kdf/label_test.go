package kdf_test

import (
	"bytes"
	"encoding/binary"
	"slices"
	"strings"
	"testing"
	"unsafe"

	"pyx/api"
	"pyx/byt"
	"pyx/kdf"
)

// put is a row's bytes.
func put(t *testing.T, x []byte) []byte {
	t.Helper()
	b, e := byt.Row(x)
	if e != api.OK {
		t.Fatal(e)
	}
	return b
}

// labelledElsewhere is what the library expands a secret to, for what a label tells.
func labelledElsewhere(t *testing.T, secret []byte, label string, context []byte, n int) []byte {
	t.Helper()
	info := binary.BigEndian.AppendUint16(nil, uint16(n))
	info = append(info, put(t, []byte("MLS 1.0 "+label))...)
	return expandedElsewhere(t, secret, append(info, put(t, context)...), n)
}

// isLabel asks that Label answers what the library has.
func isLabel(t *testing.T, secret []byte, label string, context []byte, n int) {
	t.Helper()
	got, e := kdf.Label(secret, label, context, n)
	isRow(t, got, e, labelledElsewhere(t, secret, label, context, n))
}

// labels of any lengths: with what stands ahead of them 63 and 64 bytes, 16383 and 16384 are edges of a length; and such whose signs have more than one byte, or are none at all.
func labels() []string {
	out := []string{"", "\x00", "x", "epoch", "MLS 1.0 ", "Ümläut ∀", "\xff\xfe\x80", "a\x00b"}
	for _, n := range []int{54, 55, 56, 57, 63, 64, 16374, 16375, 16376, 16384} {
		out = append(out, strings.Repeat("l", n))
	}
	return out
}

// contexts of any lengths, about the edges of a length.
func contexts() [][]byte {
	out := [][]byte{nil, {}, {0}, {7, 8}}
	for _, n := range []int{32, 62, 63, 64, 65, 16383, 16384} {
		out = append(out, filled(n))
	}
	return out
}

// P4.2: what is expanded with, byte for byte.
func TestLabelIsExpand(t *testing.T) {
	secret := filled(32)
	for _, x := range []struct {
		label   string
		context []byte
		n       int
		info    []byte
	}{
		{"epoch", []byte{7, 8}, 20, []byte("\x00\x14\x0dMLS 1.0 epoch\x02\x07\x08")},
		{"", nil, 0, []byte("\x00\x00\x08MLS 1.0 \x00")},
		{"", nil, 32, []byte("\x00\x20\x08MLS 1.0 \x00")},
		{"", []byte{0}, 33, []byte("\x00\x21\x08MLS 1.0 \x01\x00")},
		{"x", nil, 255, []byte("\x00\xff\x09MLS 1.0 x\x00")},
		{"x", nil, 256, []byte("\x01\x00\x09MLS 1.0 x\x00")},
		{"x", nil, 8160, []byte("\x1f\xe0\x09MLS 1.0 x\x00")},
		{strings.Repeat("y", 55), nil, 16, slices.Concat([]byte("\x00\x10\x3fMLS 1.0 "), bytes.Repeat([]byte("y"), 55), []byte{0})},
		{strings.Repeat("y", 56), nil, 16, slices.Concat([]byte("\x00\x10\x40\x40MLS 1.0 "), bytes.Repeat([]byte("y"), 56), []byte{0})},
		{"x", filled(64), 16, slices.Concat([]byte("\x00\x10\x09MLS 1.0 x\x40\x40"), filled(64))},
	} {
		got, e := kdf.Label(secret, x.label, x.context, x.n)
		want, f := kdf.Expand(secret, x.info, x.n)
		isRow(t, got, e, want)
		if f != api.OK || len(want) != x.n {
			t.Errorf("%q: %d bytes, %d; want %d", x.label, len(want), f, x.n)
		}
	}
}

// P4.2: of secrets, labels and contexts of any lengths, and of many bytes.
func TestLabel(t *testing.T) {
	for _, label := range labels() {
		for _, context := range contexts() {
			isLabel(t, filled(32), label, context, 40)
		}
	}
	for _, n := range keyLengths {
		isLabel(t, filled(n), "secret", filled(n), 33)
	}
	for _, n := range counts {
		isLabel(t, filled(32), "", nil, n)
		isLabel(t, nil, "key", []byte{1}, n)
	}
}

// P4.2: without context is the same as with one without bytes; a byte 00 is another one.
func TestLabelWithoutContext(t *testing.T) {
	none, e := kdf.Label(filled(32), "key", nil, 32)
	empty, f := kdf.Label(filled(32), "key", []byte{}, 32)
	zero, g := kdf.Label(filled(32), "key", []byte{0}, 32)
	isRow(t, empty, f, none)
	if e != api.OK || g != api.OK || bytes.Equal(none, zero) {
		t.Errorf("%x, %d; %x, %d", none, e, zero, g)
	}
}

// P4.2: how many bytes are asked for stands in what is expanded with, so that fewer are not the beginning of more.
func TestLabelTellsCount(t *testing.T) {
	seen := map[string]int{}
	for n := 16; n <= 300; n++ {
		b, e := kdf.Label(filled(32), "key", nil, n)
		if e != api.OK || len(b) != n {
			t.Fatalf("%d bytes, %d; want %d", len(b), e, n)
		}
		seen[string(b[:16])]++
	}
	if len(seen) != 285 {
		t.Errorf("%d beginnings; want 285", len(seen))
	}
}

// P4.2: counts of bytes that it doesn't answer.
func TestLabelRefuses(t *testing.T) {
	for _, n := range wrongCounts {
		for _, label := range []string{"", "x", strings.Repeat("l", 100)} {
			got, e := kdf.Label(filled(32), label, nil, n)
			isRefused(t, got, e)
			got, e = kdf.Label(nil, label, filled(64), n)
			isRefused(t, got, e)
		}
	}
}

// P4.2: a context of more bytes than a row may have has no row; neither has a label that with what stands ahead of it has more.
func TestLabelOfLongRows(t *testing.T) {
	// What is refused isn't copied, and memory that nobody writes into is none; so it is with a string, if that isn't a copy either.
	zeros := make([]byte, api.MaxLen+1)
	got, e := kdf.Label(filled(32), "x", zeros, 32)
	isRefused(t, got, e)
	got, e = kdf.Label(filled(32), unsafe.String(&zeros[0], api.MaxLen-7), nil, 32)
	isRefused(t, got, e)
}

// P4.2: a secret of another one is a label's, without context, of 32 bytes.
func TestDerive(t *testing.T) {
	for _, n := range keyLengths {
		for _, label := range labels() {
			got, e := kdf.Derive(filled(n), label)
			isRow(t, got, e, labelledElsewhere(t, filled(n), label, nil, 32))
			want, f := kdf.Label(filled(n), label, nil, 32)
			isRow(t, got, f, want)
		}
	}
	got, e := kdf.Derive(nil, "")
	isRow(t, got, e, labelledElsewhere(t, nil, "", nil, 32))
}

// P4.2: another secret, label or context makes other bytes, even if what stands in the one stands in the other instead.
func TestLabelTellsArguments(t *testing.T) {
	seen := map[string]int{}
	many := 0
	for _, secret := range [][]byte{{1}, {2}, filled(32), filled(65)} {
		for _, label := range labels() {
			for _, context := range contexts()[1:] {
				b, _ := kdf.Label(secret, label, context, 32)
				seen[string(b)]++
				many++
			}
		}
	}
	if len(seen) != many {
		t.Errorf("%d rows; want %d", len(seen), many)
	}
}
