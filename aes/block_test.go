package aes_test

import (
	library "crypto/aes"
	"testing"

	"pyx/aes"
	"pyx/api"
)

// lockedElsewhere is a block as the library locks it.
func lockedElsewhere(t *testing.T, key, b []byte) []byte {
	t.Helper()
	c, err := library.NewCipher(key)
	if err != nil {
		t.Fatal(err)
	}
	out := make([]byte, len(b))
	c.Encrypt(out, b)
	return out
}

// isBlock asks that Block answers what the library has.
func isBlock(t *testing.T, key, b []byte) {
	t.Helper()
	got, e := aes.Block(key, b)
	isRow(t, got, e, lockedElsewhere(t, key, b))
}

// byRounds is a block by the document's words, that goes through so many rounds, of which the one that is told does not mix.
func byRounds(t *testing.T, key, b []byte, rounds, last int) []byte {
	t.Helper()
	rows, e := aes.Keys(key)
	if e != api.OK {
		t.Fatal(e)
	}
	s := added(b, rows[0])
	for n := 1; n <= rounds; n++ {
		turned := make([]byte, 16)
		for c := range 4 {
			for r := range 4 {
				turned[4*c+r] = aes.Box(s[4*((c+r)%4)+r])
			}
		}
		s = turned
		if n != last {
			s = mixed(s)
		}
		s = added(s, rows[n])
	}
	return s
}

// mixed is each four bytes, mixed.
func mixed(s []byte) []byte {
	var out []byte
	mul := aes.Mul
	for at := 0; at < 16; at += 4 {
		a, b, c, d := s[at], s[at+1], s[at+2], s[at+3]
		out = append(out, mul(2, a)^mul(3, b)^c^d, a^mul(2, b)^mul(3, c)^d, a^b^mul(2, c)^mul(3, d), mul(3, a)^b^c^mul(2, d))
	}
	return out
}

// added is the exclusive or of a block and a row.
func added(a, b []byte) []byte {
	out := make([]byte, 16)
	for i := range out {
		out[i] = a[i] ^ b[i]
	}
	return out
}

// P5.3, P5.5: blocks that are told elsewhere, in FIPS 197 and SP 800-38A.
func TestBlockAsToldElsewhere(t *testing.T) {
	for _, x := range [][3]string{
		{"000102030405060708090a0b0c0d0e0f", "00112233445566778899aabbccddeeff", "69c4e0d86a7b0430d8cdb78070b4c55a"},
		{"2b7e151628aed2a6abf7158809cf4f3c", "3243f6a8885a308d313198a2e0370734", "3925841d02dc09fbdc118597196a0b32"},
		{"2b7e151628aed2a6abf7158809cf4f3c", "6bc1bee22e409f96e93d7e117393172a", "3ad77bb40d7a3660a89ecaf32466ef97"},
		{"2b7e151628aed2a6abf7158809cf4f3c", "ae2d8a571e03ac9c9eb76fac45af8e51", "f5d3d58503b9699de785895a96fdbaaf"},
		{"2b7e151628aed2a6abf7158809cf4f3c", "30c81c46a35ce411e5fbc1191a0a52ef", "43b1cd7f598ece23881b00e3ed030688"},
		{"2b7e151628aed2a6abf7158809cf4f3c", "f69f2445df4f9b17ad2b417be66c3710", "7b0c785e27e8ad3f8223207104725dd4"},
		{"00000000000000000000000000000000", "00000000000000000000000000000000", "66e94bd4ef8a2c3b884cfa59ca342b2e"},
	} {
		got, e := aes.Block(unhex(t, x[0]), unhex(t, x[1]))
		isRow(t, got, e, unhex(t, x[2]))
	}
}

// P5.3: of many keys and blocks, as the library has them.
func TestBlock(t *testing.T) {
	for _, key := range keys() {
		isBlock(t, key, filled(16))
		isBlock(t, filled(16), key)
		isBlock(t, key, key)
	}
}

// P5.3: each block's answer, locked again and again: a thousand blocks that have nothing in common.
func TestBlockOfBlocks(t *testing.T) {
	key, b := filled(16), make([]byte, 16)
	for range 1000 {
		got, e := aes.Block(key, b)
		isRow(t, got, e, lockedElsewhere(t, key, b))
		key, b = b, got
	}
}

// P5.3: by the document's words; the tenth round, and that one alone, doesn't mix.
func TestBlockByRounds(t *testing.T) {
	for _, key := range keys()[:131] {
		b := filled(33)[17:]
		got, e := aes.Block(key, b)
		isRow(t, got, e, byRounds(t, key, b, 10, 10))
		for last := range 10 {
			if string(got) == string(byRounds(t, key, b, 10, last)) {
				t.Errorf("round %d doesn't mix, the tenth does", last)
			}
		}
		if string(got) == string(byRounds(t, key, b, 9, 9)) {
			t.Error("nine rounds")
		}
	}
}

// P5.3: keys, and blocks, of another count of bytes than 16.
func TestBlockRefuses(t *testing.T) {
	for _, n := range wrongCounts(16) {
		got, e := aes.Block(filled(n), filled(16))
		isRefused(t, got, e)
		got, e = aes.Block(filled(16), filled(n))
		isRefused(t, got, e)
		got, e = aes.Block(filled(n), filled(n))
		isRefused(t, got, e)
		got, e = aes.Block(filled(n), filled(max(32-n, 0)))
		isRefused(t, got, e)
	}
	for _, x := range [][2][]byte{{nil, nil}, {nil, filled(16)}, {filled(16), nil}} {
		got, e := aes.Block(x[0], x[1])
		isRefused(t, got, e)
	}
}

// P5.3: no two blocks are locked to the same, under one key; nor one block under two keys.
func TestBlockTellsArguments(t *testing.T) {
	under, of := map[string]int{}, map[string]int{}
	// Behind the first three each has one bit, and they are blocks as well as keys.
	all := keys()[:131]
	for _, x := range all {
		b, _ := aes.Block(filled(16), x)
		under[string(b)]++
		b, _ = aes.Block(x, filled(16))
		of[string(b)]++
	}
	if len(under) != len(all) || len(of) != len(all) {
		t.Errorf("%d, %d blocks; want %d", len(under), len(of), len(all))
	}
}
