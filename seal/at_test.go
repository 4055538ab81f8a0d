package seal_test

import (
	"bytes"
	"encoding/binary"
	"math"
	"testing"

	"pyx/api"
	"pyx/seal"
)

// numbers are some that a nonce may be asked of: the least, the greatest, those of one bit, and others.
func numbers() []int {
	out := []int{0, 1<<32 - 1, 3, 255, 256, 257, 65535, 65536, 0x01020304, 0x7fffffff, 0xfffffffe, 0xff00ff00}
	for bit := range 32 {
		out = append(out, 1<<bit)
	}
	return out
}

// P6.4: nonces that the document's words tell.
func TestAtAsTold(t *testing.T) {
	for _, x := range []struct {
		n    int
		want string
	}{
		{0, "6465666768696a6b6c6d6e6f"},
		{1, "6465666768696a6b6c6d6e6e"},
		{0x01020304, "6465666768696a6b6d6f6d6b"},
		{1 << 31, "6465666768696a6bec6d6e6f"},
		{1<<32 - 1, "6465666768696a6b93929190"},
	} {
		got, e := seal.At(counted(12, 100), x.n)
		isRow(t, got, e, unhex(t, x.want))
	}
}

// P6.4: the base's last four bytes, as a number, the highest byte first, xor the number; the eight ahead of them as they are.
func TestAt(t *testing.T) {
	for _, base := range nonces() {
		for _, n := range numbers() {
			want := bytes.Clone(base)
			binary.BigEndian.PutUint32(want[8:], binary.BigEndian.Uint32(base[8:])^uint32(n))
			got, e := seal.At(base, n)
			isRow(t, got, e, want)
			again, e := seal.At(got, n)
			isRow(t, again, e, base)
		}
		got, e := seal.At(base, 0)
		isRow(t, got, e, base)
	}
}

// P6.4: bases of another count of bytes than 12.
func TestAtRefusesBases(t *testing.T) {
	for _, n := range append(numbers(), -1, 1<<32) {
		for _, many := range wrongCounts(12) {
			got, e := seal.At(filled(many), n)
			isNone(t, got, e, api.ErrArg)
		}
		got, e := seal.At(nil, n)
		isNone(t, got, e, api.ErrArg)
	}
}

// P6.4: numbers that have no four bytes, even such whose lowest four are those of others.
func TestAtRefusesNumbers(t *testing.T) {
	for _, base := range nonces() {
		for _, n := range []int{-1, -2, -1 << 31, -1 << 32, -1<<32 + 1, 1 << 32, 1<<32 + 1, 1 << 33, 1 << 40, 1 << 56, math.MaxInt, math.MinInt} {
			got, e := seal.At(base, n)
			isNone(t, got, e, api.ErrArg)
		}
	}
}

// P6.5: no nonce twice for two numbers: such that differ in one byte, whichever, and a row of them.
func TestAtTellsNumbers(t *testing.T) {
	for _, base := range nonces() {
		seen := map[string]int{}
		tell := func(n int) {
			b, e := seal.At(base, n)
			if other, is := seen[string(b)]; e != api.OK || is && other != n {
				t.Fatalf("At(%x, %d): %x, %d, as of %d", base, n, b, e, other)
			}
			seen[string(b)] = n
		}
		for _, shift := range []int{0, 8, 16, 24} {
			for x := range 256 {
				tell(x << shift)
				tell(0x5a3c7e81 ^ x<<shift)
			}
		}
		for n := range 1 << 12 {
			tell(n)
			tell(1<<32 - 1 - n)
		}
	}
}
