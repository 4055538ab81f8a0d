package sched_test

import (
	"bytes"
	"slices"
	"testing"

	"pyx/api"
	"pyx/kdf"
	"pyx/sched"
)

// someSecrets are n secrets, of all lengths from no byte to 69.
func someSecrets(n int) [][]byte {
	var out [][]byte
	for i := range n {
		out = append(out, counted(i%70, i))
	}
	return out
}

// P12.3: what comes of secrets that are shared beforehand, reckoned elsewhere.
func TestSharedToldElsewhere(t *testing.T) {
	for _, x := range []struct {
		l    [][]byte
		want string
	}{
		{nil, "0000000000000000000000000000000000000000000000000000000000000000"},
		{[][]byte{[]byte("a")}, "9aff428bda5b857baea88f9781d1435aa4e0e8566b1d1c1481d503a186c48da6"},
		{[][]byte{[]byte("a"), []byte("b")}, "1978c6b3ce70a29037d98329117d76ab7de0a57c8aa65f7ac81952b947e07d8b"},
		{[][]byte{[]byte("b"), []byte("a")}, "4bbf21903bb588b182c952e7c739bb463646e89eb9ed72a9956f96ef5b80f9be"},
		{[][]byte{{}}, "6c156b80d3253e7f6680111264026ba64a22919f21bbddb027a3996a7fee2459"},
		{[][]byte{{}, {}}, "93591d24fde353b38330948ac77927306ddebbe384082a52ee059334ddcf7036"},
		{[][]byte{counted(65, 0)}, "5dae8c93cc4a4f01feede90e8f0f47293cb97f99843e6c79cfc82e95e529efa0"},
		{someSecrets(300), "05ba0197fad12db243cee3828278d667c0a2c047b534137ca7498dab99e51e2b"},
	} {
		isRow(t, sched.Shared(x.l), api.OK, unhex(t, x.want), len(x.l))
	}
}

// P12.3: of none: 32 bytes 00.
func TestSharedOfNone(t *testing.T) {
	for _, l := range [][][]byte{nil, {}, make([][]byte, 0, 3)} {
		isRow(t, sched.Shared(l), api.OK, make([]byte, 32))
	}
}

// P12.3: a secret of no byte is one, whether it is nil or not, and counts.
func TestSharedOfNoByte(t *testing.T) {
	for n := 1; n < 5; n++ {
		l, empty := make([][]byte, n), make([][]byte, n)
		for i := range empty {
			empty[i] = []byte{}
		}
		isRow(t, sched.Shared(l), api.OK, sharedOf(l), n)
		isRow(t, sched.Shared(empty), api.OK, sharedOf(l), n)
	}
}

// P12.3: of one secret, of all lengths.
func TestSharedOfOne(t *testing.T) {
	for _, n := range edges {
		for _, secret := range [][]byte{counted(n, n+1), full(n), make([]byte, n)} {
			isRow(t, sched.Shared([][]byte{secret}), api.OK, sharedOf([][]byte{secret}), n)
		}
	}
}

// P12.3: of one more, each, up to more than 256: behind what came of those ahead it goes on with that, as the salt, and with the secret's place.
func TestSharedGoesOn(t *testing.T) {
	l := someSecrets(300)
	ahead := make([]byte, 32)
	for i := range l {
		got := sched.Shared(l[:i+1])
		isRow(t, got, api.OK, sharedOf(l[:i+1]), i)
		part, _ := kdf.Label(l[i], "shared", []byte{byte(i >> 8), byte(i)}, 32)
		isRow(t, got, api.OK, kdf.Extract(ahead, part), i)
		ahead = got
	}
}

// P12.3: as many as there may be: the last one's place is ff ff.
func TestSharedOfMost(t *testing.T) {
	l := make([][]byte, 65536)
	for i := range l {
		l[i] = numberOf(i, 3)
	}
	isRow(t, sched.Shared(l), api.OK, sharedOf(l))
	isRow(t, sched.Shared(l[:65535]), api.OK, sharedOf(l[:65535]))
	// The document speaks of no more; it ends all the same.
	if got := sched.Shared(append(l, nil)); got != nil {
		t.Errorf("of 65537: %x; want none", got)
	}
}

// P12.3: the same secret in another place makes another one; so do two that change places, one more, one less, and one of another byte.
func TestSharedTellsSecrets(t *testing.T) {
	of := [][]byte{[]byte("one"), []byte("two"), []byte("three"), {}, counted(64, 3)}
	seen := map[string]int{}
	many := 0
	tell := func(l [][]byte) {
		got := sched.Shared(l)
		if len(got) != 32 {
			t.Errorf("of %d: %d bytes", len(l), len(got))
		}
		seen[string(got)]++
		many++
	}
	for i := range len(of) + 1 {
		tell(of[:i])
		tell(slices.Insert(slices.Clone(of), i, []byte("more")))
		tell(slices.Repeat([][]byte{[]byte("same")}, i+1))
	}
	for i := range of {
		if i < len(of)-1 {
			tell(slices.Delete(slices.Clone(of), i, i+1))
		}
		for k := range i {
			other := slices.Clone(of)
			other[i], other[k] = other[k], other[i]
			tell(other)
		}
		for k := range of[i] {
			other := slices.Clone(of)
			other[i] = bytes.Clone(of[i])
			other[i][k] ^= 1
			tell(other)
		}
	}
	tell([][]byte{[]byte("onetwo"), []byte("three"), {}, counted(64, 3)})
	if len(seen) != many {
		t.Errorf("%d secrets; want %d", len(seen), many)
	}
}
