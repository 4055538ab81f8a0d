package seal_test

import (
	"bytes"
	"crypto/hkdf"
	"crypto/sha256"
	"encoding/hex"
	"testing"

	"pyx/api"
	"pyx/kdf"
	"pyx/seal"
)

// filled is n bytes, none of them 00; a piece of 64 is another one than that ahead of it.
func filled(n int) []byte {
	b := make([]byte, n)
	for i := range b {
		b[i] = byte((i*167+i/64*31)%255 + 1)
	}
	return b
}

// counted is n bytes that rise by one, from the first one on.
func counted(n int, first byte) []byte {
	b := make([]byte, n)
	for i := range b {
		b[i] = first + byte(i)
	}
	return b
}

// unhex is the bytes that a text of figures tells.
func unhex(t *testing.T, s string) []byte {
	t.Helper()
	b, err := hex.DecodeString(s)
	if err != nil {
		t.Fatal(err)
	}
	return b
}

// keys are some, of 32 bytes: such whose bytes are all the same, such of one bit, and others.
func keys() [][]byte {
	out := [][]byte{filled(32), filled(96)[64:], counted(32, 1), []byte("a key of two blocks, 32 bytes ..")}
	for i := range 256 {
		key := make([]byte, 32)
		key[i/8] = 1 << (i % 8)
		out = append(out, key, bytes.Repeat([]byte{byte(i)}, 32))
	}
	return out
}

// wrongCounts are those of bytes about a count that is asked for, and others.
func wrongCounts(right int) []int {
	var out []int
	for n := range 130 {
		if n != right {
			out = append(out, n)
		}
	}
	return append(out, 256, 1<<16, 1<<16+right)
}

// isRow asks that a call answered these bytes, without an error.
func isRow(t *testing.T, got []byte, e api.Errno, want []byte) {
	t.Helper()
	if e != api.OK || !bytes.Equal(got, want) {
		t.Errorf("%d bytes %.80x, %d; want %d bytes %.80x", len(got), got, e, len(want), want)
	}
}

// isNone asks that a call answered that error, and nothing beside it.
func isNone(t *testing.T, got []byte, e, want api.Errno) {
	t.Helper()
	if e != want || got != nil {
		t.Errorf("%d bytes %.80x, %d; want none, %d", len(got), got, e, want)
	}
}

// halvesElsewhere are the halves that the library expands a key to.
func halvesElsewhere(t *testing.T, key []byte) ([]byte, []byte) {
	t.Helper()
	half := func(info string, n int) []byte {
		b, err := hkdf.Expand(sha256.New, key, info, n)
		if err != nil {
			t.Fatal(err)
		}
		return b
	}
	return half("\x00\x10\x0cMLS 1.0 lock\x00", 16), half("\x00\x20\x0bMLS 1.0 tag\x00", 32)
}

// P6.1: halves that were reckoned elsewhere.
func TestHalvesToldElsewhere(t *testing.T) {
	for _, x := range []struct {
		key       []byte
		lock, own string
	}{
		{counted(32, 1), "de949fbad16b8361e8fd5c0e3db56810", "ca27735cb18f5b9f80fb155bc8b41aa231bbbf84f88ad74f645a97149caf35ab"},
		{make([]byte, 32), "bd17b81bff92b5e3db7b2fb3cb2b3278", "c66087198033686e09d53503d24e1996687268c3b39d8e7ec7a999f2a0de3550"},
		{bytes.Repeat([]byte{0xff}, 32), "2ed2e2d90d064b8e9944f0c4e8b5a535", "0aac6422f1d6faa807ac43cef3882b4042a6574b6b95f2d9cdb0f869788d88d2"},
	} {
		lock, own, e := seal.Halves(x.key)
		isRow(t, lock, e, unhex(t, x.lock))
		isRow(t, own, e, unhex(t, x.own))
	}
}

// P6.1: 16 bytes of `lock`, and 32 of `tag`, without context, as the library has them, and kdf.
func TestHalves(t *testing.T) {
	for _, key := range keys() {
		lock, own, e := seal.Halves(key)
		wantLock, wantOwn := halvesElsewhere(t, key)
		isRow(t, lock, e, wantLock)
		isRow(t, own, e, wantOwn)
		labelled, f := kdf.Label(key, "lock", nil, 16)
		isRow(t, lock, f, labelled)
		labelled, f = kdf.Label(key, "tag", nil, 32)
		isRow(t, own, f, labelled)
	}
}

// P6.1: another key has other halves, and no key's one half begins its other one.
func TestHalvesTellKeys(t *testing.T) {
	seen := map[string]bool{}
	many := 0
	for _, key := range keys()[:259] {
		lock, own, _ := seal.Halves(key)
		seen[string(lock)], seen[string(own)], seen[string(own[:16])] = true, true, true
		many += 3
	}
	if len(seen) != many {
		t.Errorf("%d halves; want %d", len(seen), many)
	}
}

// P6.1: keys of another count of bytes than 32: none of both.
func TestHalvesRefuse(t *testing.T) {
	for _, n := range wrongCounts(32) {
		lock, own, e := seal.Halves(filled(n))
		isNone(t, lock, e, api.ErrArg)
		isNone(t, own, e, api.ErrArg)
		lock, own, e = seal.Halves(make([]byte, n, n+32))
		isNone(t, lock, e, api.ErrArg)
		isNone(t, own, e, api.ErrArg)
	}
	lock, own, e := seal.Halves(nil)
	isNone(t, lock, e, api.ErrArg)
	isNone(t, own, e, api.ErrArg)
}
