package sha_test

import (
	"math"
	"math/big"
	"testing"

	"pyx/sha"
)

// printed are the keys as FIPS 180-4, 4.2.2, prints them.
var printed = [64]uint32{
	0x428a2f98, 0x71374491, 0xb5c0fbcf, 0xe9b5dba5, 0x3956c25b, 0x59f111f1, 0x923f82a4, 0xab1c5ed5,
	0xd807aa98, 0x12835b01, 0x243185be, 0x550c7dc3, 0x72be5d74, 0x80deb1fe, 0x9bdc06a7, 0xc19bf174,
	0xe49b69c1, 0xefbe4786, 0x0fc19dc6, 0x240ca1cc, 0x2de92c6f, 0x4a7484aa, 0x5cb0a9dc, 0x76f988da,
	0x983e5152, 0xa831c66d, 0xb00327c8, 0xbf597fc7, 0xc6e00bf3, 0xd5a79147, 0x06ca6351, 0x14292967,
	0x27b70a85, 0x2e1b2138, 0x4d2c6dfc, 0x53380d13, 0x650a7354, 0x766a0abb, 0x81c2c92e, 0x92722c85,
	0xa2bfe8a1, 0xa81a664b, 0xc24b8b70, 0xc76c51a3, 0xd192e819, 0xd6990624, 0xf40e3585, 0x106aa070,
	0x19a4c116, 0x1e376c08, 0x2748774c, 0x34b0bcb5, 0x391c0cb3, 0x4ed8aa4a, 0x5b9cca4f, 0x682e6ff3,
	0x748f82ee, 0x78a5636f, 0x84c87814, 0x8cc70208, 0x90befffa, 0xa4506ceb, 0xbef9a3f7, 0xc67178f2,
}

// P2.1: each key, as it is printed, and as it is reckoned from the prime of its place.
func TestKeys(t *testing.T) {
	for i, p := range firstPrimes(64) {
		if k := sha.Key(i); k != printed[i] || k != behindThePoint(p, 3) {
			t.Errorf("Key(%d): %08x; want %08x, the root of %d says %08x", i, k, printed[i], p, behindThePoint(p, 3))
		}
	}
}

// P2.1: the key of a place that there isn't is 0, even where the place's lowest bits are those of one that there is.
func TestNoKey(t *testing.T) {
	for _, i := range []int{-1, -2, -63, -64, -65, 64, 65, 127, 128, 256, 257, math.MinInt, math.MinInt + 1, math.MaxInt, math.MinInt32, math.MaxInt32, 1 << 32, 1<<32 + 1, -1 << 32, 1<<32 - 1} {
		if k := sha.Key(i); k != 0 {
			t.Errorf("Key(%d): %08x; want 0", i, k)
		}
	}
}

// P2.1: the eight words, as the document tells them, and as the square roots of eight primes say.
func TestStart(t *testing.T) {
	want := [8]uint32{0x6a09e667, 0xbb67ae85, 0x3c6ef372, 0xa54ff53a, 0x510e527f, 0x9b05688c, 0x1f83d9ab, 0x5be0cd19}
	for i, p := range firstPrimes(8) {
		if x := sha.Start()[i]; x != want[i] || x != behindThePoint(p, 2) {
			t.Errorf("word %d: %08x; want %08x, the root of %d says %08x", i, x, want[i], p, behindThePoint(p, 2))
		}
	}
}

// firstPrimes are as many primes, from 2 on.
func firstPrimes(many int) []int64 {
	var out []int64
	for n := int64(2); len(out) < many; n++ {
		if big.NewInt(n).ProbablyPrime(0) {
			out = append(out, n)
		}
	}
	return out
}

// behindThePoint are the first 32 bits behind the point of p's root of that degree, bit by bit, in numbers of any size.
func behindThePoint(p int64, degree uint) uint32 {
	all := new(big.Int).Lsh(big.NewInt(p), 32*degree)
	root := new(big.Int)
	for i := 40; i >= 0; i-- {
		more := new(big.Int).SetBit(root, i, 1)
		if new(big.Int).Exp(more, big.NewInt(int64(degree)), nil).Cmp(all) <= 0 {
			root = more
		}
	}
	return uint32(root.Uint64())
}
