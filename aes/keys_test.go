package aes_test

import (
	"bytes"
	"slices"
	"testing"

	"pyx/aes"
	"pyx/api"
)

// filled is n bytes, none of them 00; a piece of 64 is another one than that ahead of it.
func filled(n int) []byte {
	b := make([]byte, n)
	for i := range b {
		b[i] = byte((i*167+i/64*31)%255 + 1)
	}
	return b
}

// keys are some, of 16 bytes: such whose bytes are all the same, such of one bit, and others.
func keys() [][]byte {
	out := [][]byte{filled(16), filled(80)[64:], []byte("a key of a block")}
	for i := range 128 {
		key := make([]byte, 16)
		key[i/8] = 1 << (i % 8)
		out = append(out, key)
	}
	for i := range 256 {
		out = append(out, bytes.Repeat([]byte{byte(i)}, 16))
	}
	return out
}

// wrongCounts are those of bytes about a count that is asked for, and others.
func wrongCounts(right int) []int {
	var out []int
	for n := range 70 {
		if n != right {
			out = append(out, n)
		}
	}
	return append(out, 128, 192, 256, 1<<16, 1<<16+right)
}

// isRow asks that a call answered these bytes, without an error.
func isRow(t *testing.T, got []byte, e api.Errno, want []byte) {
	t.Helper()
	if e != api.OK || !bytes.Equal(got, want) {
		t.Errorf("%d bytes %.80x, %d; want %d bytes %.80x", len(got), got, e, len(want), want)
	}
}

// isRefused asks that a call answered ErrArg, and nothing beside it.
func isRefused(t *testing.T, got []byte, e api.Errno) {
	t.Helper()
	if e != api.ErrArg || got != nil {
		t.Errorf("%d bytes %.80x, %d; want none, ErrArg", len(got), got, e)
	}
}

// rowsOf are a key's rows by the document's words, word by word.
func rowsOf(key []byte) [][]byte {
	var words [44][]byte
	r := byte(1)
	for i := range words {
		if i < 4 {
			words[i] = key[4*i : 4*i+4]
			continue
		}
		last := bytes.Clone(words[i-1])
		if i%4 == 0 {
			last = append(last[1:], last[0])
			for j := range last {
				last[j] = aes.Box(last[j])
			}
			last[0] ^= r
			r = aes.Mul(r, 2)
		}
		for j, x := range words[i-4] {
			last[j] ^= x
		}
		words[i] = last
	}
	var rows [][]byte
	for four := range slices.Chunk(words[:], 4) {
		rows = append(rows, slices.Concat(four...))
	}
	return rows
}

// areRows asks that Keys answered these rows, without an error.
func areRows(t *testing.T, key []byte, want [][]byte) {
	t.Helper()
	got, e := aes.Keys(key)
	if e != api.OK || len(got) != 11 || !slices.EqualFunc(got, want, bytes.Equal) {
		t.Errorf("of %x: %x, %d; want %x", key, got, e, want)
	}
}

// P5.2: rows that FIPS 197 tells, A.1.
func TestKeysAsToldElsewhere(t *testing.T) {
	const told = "2b7e151628aed2a6abf7158809cf4f3c" + "a0fafe1788542cb123a339392a6c7605" +
		"f2c295f27a96b9435935807a7359f67f" + "3d80477d4716fe3e1e237e446d7a883b" +
		"ef44a541a8525b7fb671253bdb0bad00" + "d4d1c6f87c839d87caf2b8bc11f915bc" +
		"6d88a37a110b3efddbf98641ca0093fd" + "4e54f70e5f5fc9f384a64fb24ea6dc4f" +
		"ead27321b58dbad2312bf5607f8d292f" + "ac7766f319fadc2128d12941575c006e" +
		"d014f9a8c9ee2589e13f0cc8b6630ca6"
	want := slices.Collect(slices.Chunk(unhex(t, told), 16))
	areRows(t, want[0], want)
}

// P5.2: rows that FIPS 197 tells, C.1, and those of bytes 00.
func TestKeysAsToldElsewhereToo(t *testing.T) {
	for _, told := range []string{
		"000102030405060708090a0b0c0d0e0f" + "d6aa74fdd2af72fadaa678f1d6ab76fe" + "b692cf0b643dbdf1be9bc5006830b3fe",
		"00000000000000000000000000000000" + "62636363626363636263636362636363" + "9b9898c9f9fbfbaa9b9898c9f9fbfbaa",
	} {
		want := unhex(t, told)
		rows, e := aes.Keys(want[:16])
		isRow(t, slices.Concat(rows[:3]...), e, want)
	}
}

// P5.2: of many keys, by the document's words; the first row is the key's own.
func TestKeys(t *testing.T) {
	for _, key := range keys() {
		areRows(t, key, rowsOf(key))
	}
}

// P5.2: keys of another count of bytes than 16 have no rows.
func TestKeysRefuses(t *testing.T) {
	for _, n := range wrongCounts(16) {
		rows, e := aes.Keys(filled(n))
		if e != api.ErrArg || rows != nil {
			t.Errorf("of %d bytes: %x, %d; want none, ErrArg", n, rows, e)
		}
	}
	if rows, e := aes.Keys(nil); e != api.ErrArg || rows != nil {
		t.Errorf("of none: %x, %d; want none, ErrArg", rows, e)
	}
}

// P5.2: another key has other rows, each of them.
func TestKeysTellKeys(t *testing.T) {
	seen := map[string]int{}
	many := 0
	for _, key := range keys()[:131] {
		rows, _ := aes.Keys(key)
		for i, row := range rows {
			seen[string(append(row, byte(i)))]++
			many++
		}
	}
	if len(seen) != many || many != 11*131 {
		t.Errorf("%d rows; want %d", len(seen), many)
	}
}
