package kdf_test

import (
	"bytes"
	"crypto/pbkdf2"
	"crypto/sha256"
	"math"
	"slices"
	"strings"
	"testing"

	"pyx/api"
	"pyx/kdf"
	"pyx/mac"
)

const (
	mostPassed = 1024
	mostRounds = 1 << 20
)

// isPass asks that Pass answers what the library has; that has nothing of no bytes.
func isPass(t *testing.T, word, salt []byte, rounds, n int) {
	t.Helper()
	want, err := pbkdf2.Key(sha256.New, string(word), salt, rounds, max(n, 1))
	if err != nil {
		t.Fatal(err)
	}
	got, e := kdf.Pass(word, salt, rounds, n)
	isRow(t, got, e, want[:n])
}

// P4.3, P4.4: bytes of passwords that are told elsewhere, in RFC 7914 among others.
func TestPassAsToldElsewhere(t *testing.T) {
	for _, x := range []struct {
		word, salt string
		rounds     int
		want       string
	}{
		{"password", "salt", 1, "120fb6cffcf8b32c43e7225256c4f837a86548c92ccc35480805987cb70be17b"},
		{"password", "salt", 2, "ae4d0c95af6b46d32d0adff928f06dd02a303f8ef3c251dfd6e2d85a95474c43"},
		{"password", "salt", 4096, "c5e478d59288c841aa530db6845c4c8d962893a001ce4e11a4963873aa98134a"},
		{"pass\x00word", "sa\x00lt", 4096, "89b69d0516f829893c696226650a8687"},
		{"passwordPASSWORDpassword", "saltSALTsaltSALTsaltSALTsaltSALTsalt", 4096, "348c89dbcbd32b2f32d814b8116e84cf2b17347ebc1800181c4e2a1fb8dd53e1c635518c7dac47e9"},
		{"passwd", "salt", 1, "55ac046e56e3089fec1691c22544b605f94185216dde0465e68b9d57c20dacbc49ca9cccf179b645991664b39d77ef317c71b845b1e30bd509112041d3a19783"},
		{"Password", "NaCl", 80000, "4ddcd8f60b98be21830cee5ef22701f9641a4418d04c0414aeff08876b34ab56a1d425a1225833549adb841b51c9b3176a272bdebba1d078478f62b397f33c8d"},
	} {
		want := unhex(t, x.want)
		got, e := kdf.Pass([]byte(x.word), []byte(x.salt), x.rounds, len(want))
		isRow(t, got, e, want)
	}
}

// P4.3: blocks by the document's own words: each one's place is a number of 4 bytes, and of each tag the next one is made.
func TestPassByBlocks(t *testing.T) {
	for _, rounds := range []int{1, 2, 3, 7} {
		word, salt := []byte("a word"), []byte("a salt")
		var all []byte
		for i := 1; i <= 32; i++ {
			tag := mac.Sum(word, slices.Concat(salt, []byte{0, 0, 0, byte(i)}))
			block := make([]byte, 32)
			for range rounds {
				for j := range block {
					block[j] ^= tag[j]
				}
				tag = mac.Sum(word, tag)
			}
			all = append(all, block...)
		}
		for _, n := range []int{0, 1, 31, 32, 33, 64, 65, 1023, 1024} {
			got, e := kdf.Pass(word, salt, rounds, n)
			isRow(t, got, e, all[:n])
		}
	}
}

// P4.3: of words and salts of any lengths, few rounds and many.
func TestPass(t *testing.T) {
	for _, n := range keyLengths {
		for _, many := range keyLengths {
			isPass(t, filled(n), filled(many), 3, 65)
		}
		// Of bytes 00, fewer than a block's, the word is the same as of none.
		isPass(t, make([]byte, n), make([]byte, n), 2, 40)
	}
	isPass(t, nil, nil, 1, 32)
	isPass(t, []byte{}, []byte{}, 2, 33)
	for rounds := 1; rounds <= 40; rounds++ {
		isPass(t, []byte("word"), []byte("salt"), rounds, 48)
	}
	isPass(t, []byte("word"), []byte("salt"), 1000, mostPassed)
	isPass(t, []byte("word"), filled(1<<16+1), 9, 100)
}

// P4.3: a long word is as good as a short one for many rounds.
func TestPassOfLongWord(t *testing.T) {
	isPass(t, filled(1<<20), []byte("salt"), 2000, 64)
}

// P4.3: rounds that it doesn't go through, and counts of bytes that it doesn't answer.
func TestPassRefuses(t *testing.T) {
	rows := [][]byte{nil, {}, []byte("word"), filled(100)}
	for _, row := range rows {
		for _, rounds := range []int{math.MinInt, -mostRounds, -2, -1, 0, mostRounds + 1, mostRounds + 2, 1 << 32, 1<<32 + 1, math.MaxInt} {
			for _, n := range []int{-1, 0, 1, 32, mostPassed, mostPassed + 1} {
				got, e := kdf.Pass(row, row, rounds, n)
				isRefused(t, got, e)
			}
		}
		for _, n := range append(slices.Clone(wrongCounts), mostPassed+1, mostPassed+2, 1056, 4096, mostExpanded) {
			for _, rounds := range []int{1, 2, mostRounds} {
				got, e := kdf.Pass(row, row, rounds, n)
				isRefused(t, got, e)
			}
		}
	}
}

// P4.3: no bytes are answered, of any rounds; of most of them as soon as of one.
func TestPassOfNoBytes(t *testing.T) {
	for _, rounds := range []int{1, 2, mostRounds - 1, mostRounds} {
		got, e := kdf.Pass([]byte("word"), []byte("salt"), rounds, 0)
		isRow(t, got, e, nil)
	}
}

// P4.3: the most rounds that there are.
func TestPassOfMostRounds(t *testing.T) {
	if testing.Short() {
		t.Skip("some four seconds")
	}
	isPass(t, []byte("word"), []byte("salt"), mostRounds, 32)
}

// P4.4: fewer bytes are the beginning of more.
func TestFewerPassedBegin(t *testing.T) {
	for _, rounds := range []int{1, 2} {
		all, e := kdf.Pass([]byte("word"), []byte("salt"), rounds, mostPassed)
		if e != api.OK || len(all) != mostPassed {
			t.Fatalf("%d bytes, %d", len(all), e)
		}
		for n := range mostPassed + 1 {
			got, e := kdf.Pass([]byte("word"), []byte("salt"), rounds, n)
			isRow(t, got, e, all[:n])
		}
	}
}

// P4.3: another word, salt or count of rounds makes other bytes; and no block is another one's.
func TestPassTellsArguments(t *testing.T) {
	seen := map[string]int{}
	many := 0
	for _, word := range []string{"word", "Word", "words", "", "salt", strings.Repeat("w", 65)} {
		for _, salt := range []string{"salt", "Salt", "salts", "", "word", "\x00", "\x00\x00\x00\x01"} {
			for rounds := 1; rounds <= 4; rounds++ {
				b, _ := kdf.Pass([]byte(word), []byte(salt), rounds, 128)
				for block := range slices.Chunk(b, 32) {
					seen[string(bytes.Clone(block))]++
					many++
				}
			}
		}
	}
	if len(seen) != many {
		t.Errorf("%d blocks; want %d", len(seen), many)
	}
}
