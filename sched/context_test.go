package sched_test

import (
	"slices"
	"testing"

	"pyx/sched"
)

// someNumbers are epochs of all widths, the least and the greatest among them.
var someNumbers = []int{0, 1, 2, 255, 256, 258, 65535, 65536, 1<<24 - 1, 1 << 24, 1<<32 - 1, 1 << 32, 1 << 40, 0x010203040506, 1 << 47, 1<<48 - 2, 1<<48 - 1}

// P12.1: what an epoch belongs to, byte for byte.
func TestContextByteForByte(t *testing.T) {
	tree, log := counted(32, 1), counted(32, 101)
	digests := "200102030405060708090a0b0c0d0e0f101112131415161718191a1b1c1d1e1f20" + "2065666768696a6b6c6d6e6f707172737475767778797a7b7c7d7e7f8081828384"
	for _, x := range []struct {
		group []byte
		epoch int
		want  string
	}{
		{[]byte{7, 8}, 258, "020708" + "000000000102" + digests},
		{nil, 0, "00" + "000000000000" + digests},
		{[]byte{}, 1, "00" + "000000000001" + digests},
		{[]byte{0}, 1<<48 - 1, "0100" + "ffffffffffff" + digests},
		{[]byte{0xff}, 0x010203040506, "01ff" + "010203040506" + digests},
	} {
		got, e := sched.Context(x.group, x.epoch, tree, log)
		isRow(t, got, e, unhex(t, x.want), x.group, x.epoch)
	}
	got, e := sched.Context(full(255), 0, full(32), make([]byte, 32))
	want := slices.Concat([]byte{0x40, 0xff}, full(255), make([]byte, 6), []byte{32}, full(32), []byte{32}, make([]byte, 32))
	isRow(t, got, e, want, "a group of 255 bytes")
}

// P12.1: groups of all lengths, the least and the greatest among them, in epochs of all widths.
func TestContext(t *testing.T) {
	for n := range 256 {
		for _, epoch := range someNumbers {
			got, e := sched.Context(counted(n, n), epoch, counted(32, n), counted(32, n+32))
			isRow(t, got, e, contextOf(counted(n, n), epoch, counted(32, n), counted(32, n+32)), n, epoch)
		}
	}
	for _, p := range somePairs() {
		got, e := sched.Context([]byte{3}, 5, p[0], p[1])
		isRow(t, got, e, contextOf([]byte{3}, 5, p[0], p[1]))
	}
}

// P12.1: epochs that there aren't.
func TestContextRefusesEpochs(t *testing.T) {
	for _, epoch := range []int{-1, -2, -256, -1 << 47, -1 << 48, -1<<48 + 1, least, least + 1, 1 << 48, 1<<48 + 1, 1 << 49, 1<<49 - 1, 1 << 56, 1<<62 + 5, greatest} {
		for _, group := range [][]byte{nil, {7, 8}, full(255)} {
			got, e := sched.Context(group, epoch, counted(32, 1), counted(32, 2))
			isRefused(t, got, e, group, epoch)
		}
	}
}

// P12.1: groups of more than 255 bytes.
func TestContextRefusesGroups(t *testing.T) {
	for _, n := range []int{256, 257, 288, 511, 512, 16383, 16384, 65536, 65537} {
		for _, epoch := range someNumbers {
			got, e := sched.Context(make([]byte, n), epoch, counted(32, 1), counted(32, 2))
			isRefused(t, got, e, n, epoch)
		}
	}
}

// P12.1: a tree's digest, or a log, of not 32 bytes; and both, even if they have 64 in all.
func TestContextRefusesDigests(t *testing.T) {
	for _, n := range wrongLengths {
		got, e := sched.Context([]byte{7}, 1, counted(n, 1), counted(32, 2))
		isRefused(t, got, e, "a tree of", n)
		got, e = sched.Context([]byte{7}, 1, counted(32, 1), counted(n, 2))
		isRefused(t, got, e, "a log of", n)
		for _, many := range wrongLengths {
			got, e = sched.Context([]byte{7}, 1, counted(n, 1), counted(many, 2))
			isRefused(t, got, e, "a tree of", n, "a log of", many)
		}
	}
	got, e := sched.Context(nil, 0, nil, counted(32, 2))
	isRefused(t, got, e, "no tree")
	got, e = sched.Context(nil, 0, counted(32, 2), nil)
	isRefused(t, got, e, "no log")
	got, e = sched.Context(full(256), -1, nil, nil)
	isRefused(t, got, e, "all of it")
}

// P12.1: another group, epoch, tree or log is another context.
func TestContextTellsArguments(t *testing.T) {
	seen := map[string]int{}
	many := 0
	for _, group := range [][]byte{nil, {0}, {0, 0}, {1}, {6, 0, 0}, full(255)} {
		for _, epoch := range someNumbers {
			for _, p := range somePairs() {
				c, _ := sched.Context(group, epoch, p[0], p[1])
				seen[string(c)]++
				many++
			}
		}
	}
	if len(seen) != many {
		t.Errorf("%d contexts; want %d", len(seen), many)
	}
}
