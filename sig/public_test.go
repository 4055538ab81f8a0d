package sig_test

import (
	"bytes"
	"crypto/hkdf"
	"crypto/sha256"
	"encoding/hex"
	"slices"
	"testing"

	"pyx/api"
	"pyx/kdf"
	"pyx/sig"
)

// filled is n bytes, none of them 00; a piece of 64 is another one than that ahead of it.
func filled(n int) []byte {
	b := make([]byte, n)
	for i := range b {
		b[i] = byte((i*167+i/64*31)%255 + 1)
	}
	return b
}

// counted is n bytes that rise by one, from the first one on.
func counted(n int, first byte) []byte {
	b := make([]byte, n)
	for i := range b {
		b[i] = first + byte(i)
	}
	return b
}

// full is n bytes ff.
func full(n int) []byte { return bytes.Repeat([]byte{0xff}, n) }

// unhex is the bytes that a text of figures tells.
func unhex(t *testing.T, s string) []byte {
	t.Helper()
	b, err := hex.DecodeString(s)
	if err != nil {
		t.Fatal(err)
	}
	return b
}

// seeds are some, of 32 bytes: such whose bytes are all the same, such of one bit, and others.
func seeds() [][]byte {
	out := [][]byte{filled(32), filled(96)[64:], counted(32, 1), []byte("a seed of one half, 32 bytes all")}
	for i := range 256 {
		seed := make([]byte, 32)
		seed[i/8] = 1 << (i % 8)
		out = append(out, seed, bytes.Repeat([]byte{byte(i)}, 32))
	}
	return out
}

// wrongCounts are those of bytes about 32, and others.
func wrongCounts() []int {
	var out []int
	for n := range 130 {
		if n != 32 {
			out = append(out, n)
		}
	}
	return append(out, 256, 1<<16, 1<<16+32)
}

// isRow asks that a call answered these bytes, without an error.
func isRow(t *testing.T, got []byte, e api.Errno, want []byte) {
	t.Helper()
	if e != api.OK || !bytes.Equal(got, want) {
		t.Errorf("%d bytes %.80x, %d; want %d bytes %.80x", len(got), got, e, len(want), want)
	}
}

// isNone asks that a call answered that error, and nothing beside it.
func isNone(t *testing.T, got []byte, e, want api.Errno) {
	t.Helper()
	if e != want || got != nil {
		t.Errorf("%d bytes %.80x, %d; want none, %d", len(got), got, e, want)
	}
}

// isErrno asks that a call answered OK, or that error.
func isErrno(t *testing.T, got, want api.Errno) {
	t.Helper()
	if got != want {
		t.Errorf("%d; want %d", got, want)
	}
}

// publicOf is what Public answers.
func publicOf(t *testing.T, seed []byte) []byte {
	t.Helper()
	public, e := sig.Public(seed)
	if e != api.OK {
		t.Fatal(e)
	}
	return public
}

// rowOf is a row, as the document's chapter of rows has it.
func rowOf(t *testing.T, x []byte) []byte {
	t.Helper()
	switch n := len(x); {
	case n < 1<<6:
		return slices.Concat([]byte{byte(n)}, x)
	case n < 1<<14:
		return slices.Concat([]byte{byte(n>>8) | 0x40, byte(n)}, x)
	case n < 1<<30:
		return slices.Concat([]byte{byte(n>>24) | 0x80, byte(n >> 16), byte(n >> 8), byte(n)}, x)
	}
	t.Fatal("no row")
	return nil
}

// labelledElsewhere is what the library expands a secret to, for what a label tells.
func labelledElsewhere(t *testing.T, secret []byte, label string, context []byte, n int) []byte {
	t.Helper()
	info := slices.Concat([]byte{byte(n >> 8), byte(n)}, rowOf(t, []byte("MLS 1.0 "+label)), rowOf(t, context))
	b, err := hkdf.Expand(sha256.New, secret, string(info), n)
	if err != nil {
		t.Fatal(err)
	}
	return b
}

// publicElsewhere is the library's public half of a seed.
func publicElsewhere(t *testing.T, seed []byte) []byte {
	t.Helper()
	return labelledElsewhere(t, seed, "public", nil, 32)
}

// P7.1: public halves that were reckoned elsewhere.
func TestPublicToldElsewhere(t *testing.T) {
	for _, x := range []struct {
		seed []byte
		want string
	}{
		{counted(32, 1), "70b16d5f08cb17398763f01b48ecb09f95180b124375aebef5298e5c80d47e71"},
		{make([]byte, 32), "a5ec6dd57f8fbc29b6b9b57c7365ce8b7eaac3232901014d210fbc5f50b399da"},
		{full(32), "ebf0a16757c5c246d0d8e7c6e0893f7cd38fc11dbf3543f7ddbc52b3e66c406f"},
		{counted(32, 200), "41bbbc90c70e69c9878354170fd2481e548d2b941442a5fd7e5ad32486eb3782"},
	} {
		got, e := sig.Public(x.seed)
		isRow(t, got, e, unhex(t, x.want))
	}
}

// P7.1: 32 bytes of `public`, without context, as the library has them, and kdf.
func TestPublic(t *testing.T) {
	for _, seed := range seeds() {
		got, e := sig.Public(seed)
		isRow(t, got, e, publicElsewhere(t, seed))
		labelled, f := kdf.Label(seed, "public", nil, 32)
		isRow(t, got, f, labelled)
	}
}

// P7.1: another seed has another public half, and none has itself.
func TestPublicTellsSeeds(t *testing.T) {
	seen := map[string]bool{}
	many := 0
	for _, seed := range seeds()[:259] {
		seen[string(seed)], seen[string(publicOf(t, seed))] = true, true
		many += 2
	}
	if len(seen) != many {
		t.Errorf("%d seeds and halves; want %d", len(seen), many)
	}
}

// P7.1: seeds of another count of bytes than 32, 31 and 33 among them.
func TestPublicRefuses(t *testing.T) {
	for _, n := range wrongCounts() {
		got, e := sig.Public(filled(n))
		isNone(t, got, e, api.ErrArg)
		got, e = sig.Public(make([]byte, n, n+32))
		isNone(t, got, e, api.ErrArg)
	}
	got, e := sig.Public(nil)
	isNone(t, got, e, api.ErrArg)
}
