package schema_test

import (
	"bytes"
	"encoding/hex"
	"strings"
	"testing"

	"pyx/api"
	"pyx/group"
	"pyx/schema"
	"pyx/sha"
)

// isTold asks of a right group, by each version and by what is none, whether it can be told, and by which bytes.
func isTold(t *testing.T, x sample) {
	t.Helper()
	if !group.Right(x.g) || leastOf(x.g) != x.least {
		t.Fatalf("%s isn't such as it is to be", x.what)
	}
	if n := schema.Least(x.g); n != x.least {
		t.Errorf("%s: least %d; want %d", x.what, n, x.least)
	}
	for _, v := range versions {
		can := v >= x.least
		if got := schema.Can(v, x.g); got != can {
			t.Errorf("%s, version %d: %t; want %t", x.what, v, got, can)
		}
		var want []byte
		e := api.ErrRep
		if can {
			want, e = bytesOf(v, x.g), api.OK
		}
		isEncoded(t, x.what, v, x.g, want, e)
	}
	for _, v := range others {
		if schema.Can(v, x.g) {
			t.Errorf("%s, version %d can tell it", x.what, v)
		}
		isEncoded(t, x.what, v, x.g, nil, api.ErrVersion)
	}
}

// isEncoded asks what Encode answers.
func isEncoded(t *testing.T, what string, v int, g api.Group, want []byte, e api.Errno) {
	t.Helper()
	b, got := schema.Encode(v, g)
	if got != e || !bytes.Equal(b, want) || e != api.OK && b != nil {
		t.Errorf("%s, version %d: %d, %x; want %d, %x", what, v, got, b, e, want)
	}
}

// P15.1: groups of all kinds: which versions can tell them, the least of these, and their bytes; ErrRep by all other versions; ErrVersion by what is none, though it couldn't tell them either.
func TestTold(t *testing.T) {
	leasts, parts := map[int]int{}, map[string]int{}
	for _, x := range samples(t) {
		isTold(t, x)
		leasts[x.least]++
		for k, n := range x.g.Tree {
			parts[[]string{"leaf ", "node "}[k%2]+[]string{"Blank", "there", "there"}[n.Kind]]++
			if len(n.Un) > 0 {
				parts["Un"]++
			}
		}
		if len(x.g.Own) > 1 {
			parts["seeds"]++
		}
	}
	if len(leasts) != 4 || len(parts) != 6 {
		t.Errorf("not every version is the least one of some group, or not all parts are there: %v, %v", leasts, parts)
	}
}

// P15.1: the bytes of a group of one, part by part, in each version.
func TestBytesOfOne(t *testing.T) {
	g := api.Group{
		Id:    []byte("id"),
		Epoch: 0x01020304,
		Tree:  []api.Node{{Kind: api.Leaf, Name: 258, Pub: publicOf(counted(32, 1)), Hash: counted(32, 200)}},
		Own:   []api.Seed{{Node: 0, Seed: counted(32, 1)}},
		Log:   counted(32, 40),
		Sec:   api.Epoch{Init: counted(32, 0), Send: counted(32, 10), Export: counted(32, 20), Confirm: counted(32, 30), Resume: counted(32, 40)},
		Chain: []api.Chain{{Next: 0x0a0b0c0d, Secret: counted(32, 77)}},
	}
	ahead := "02 6964 "
	behind := "0001 01 0102 20 70b16d5f08cb17398763f01b48ecb09f95180b124375aebef5298e5c80d47e71 20 c8c9cacbcccdcecfd0d1d2d3d4d5d6d7d8d9dadbdcdddedfe0e1e2e3e4e5e6e7 0000 " +
		"0000 0001 0000 20 0102030405060708090a0b0c0d0e0f101112131415161718191a1b1c1d1e1f20 " +
		"20 28292a2b2c2d2e2f303132333435363738393a3b3c3d3e3f4041424344454647 " +
		"20 000102030405060708090a0b0c0d0e0f101112131415161718191a1b1c1d1e1f " +
		"20 0a0b0c0d0e0f101112131415161718191a1b1c1d1e1f20212223242526272829 " +
		"20 1415161718191a1b1c1d1e1f202122232425262728292a2b2c2d2e2f30313233 " +
		"20 1e1f202122232425262728292a2b2c2d2e2f303132333435363738393a3b3c3d " +
		"20 28292a2b2c2d2e2f303132333435363738393a3b3c3d3e3f4041424344454647 " +
		"0001 0a0b0c0d 20 4d4e4f505152535455565758595a5b5c5d5e5f606162636465666768696a6b6c"
	for v, want := range map[int]string{
		1: ahead + "01020304" + behind,
		2: ahead + "01020304" + behind + "00",
		3: ahead + "01020304" + behind + "00" + "0000",
		4: ahead + "000001020304" + behind + "00" + "0000",
	} {
		isEncoded(t, "of one", v, g, unhex(t, want), api.OK)
	}
	// What comes of a spare, and of shared secrets, is told one behind the other.
	g.Chain[0].Spare = []api.Lock{{At: 1, Key: counted(32, 1), Nonce: counted(12, 1)}, {At: 0x0a0b0c0c, Key: counted(32, 2), Nonce: counted(12, 2)}}
	g.Psk = []api.Psk{{Id: 258, Secret: []byte{7}}, {Id: 65535, Secret: counted(64, 0)}}
	spares := "02 00000001 20 0102030405060708090a0b0c0d0e0f101112131415161718191a1b1c1d1e1f20 0c 0102030405060708090a0b0c 0a0b0c0c 20 02030405060708090a0b0c0d0e0f101112131415161718191a1b1c1d1e1f2021 0c 02030405060708090a0b0c0d"
	shared := "0002 0102 01 07 ffff 4040 000102030405060708090a0b0c0d0e0f101112131415161718191a1b1c1d1e1f202122232425262728292a2b2c2d2e2f303132333435363738393a3b3c3d3e3f"
	isEncoded(t, "with all", 3, g, unhex(t, ahead+"01020304"+behind+spares+shared), api.OK)
	isEncoded(t, "with all", 4, g, unhex(t, ahead+"000001020304"+behind+spares+shared), api.OK)
	g.Psk = nil
	isEncoded(t, "with spares", 2, g, unhex(t, ahead+"01020304"+behind+spares), api.OK)
}

// unhex is the bytes of a text, whatever room is between.
func unhex(t *testing.T, s string) []byte {
	t.Helper()
	b, err := hex.DecodeString(strings.ReplaceAll(s, " ", ""))
	if err != nil {
		t.Fatal(err)
	}
	return b
}

// ofFour is a group of four leaves, one of them Blank, with Un, and with spares and shared secrets, if these are asked for.
func ofFour(spares, shared bool, epoch int) api.Group {
	g := api.Group{
		Id:    counted(70, 3),
		Epoch: epoch,
		Tree: []api.Node{
			{Kind: api.Leaf, Name: 258, Pub: publicOf(counted(32, 1)), Hash: counted(32, 200)},
			{Kind: api.Parent, Pub: publicOf(counted(32, 2)), Un: []int{1}},
			{Kind: api.Leaf, Name: 3, Pub: counted(32, 5)},
			{}, {},
			{Kind: api.Parent, Pub: counted(32, 6), Un: []int{3}, Hash: counted(32, 90)},
			{Kind: api.Leaf, Name: 65535, Pub: counted(32, 7), Hash: counted(32, 91)},
		},
		Own:   []api.Seed{{Node: 0, Seed: counted(32, 1)}, {Node: 1, Seed: counted(32, 2)}},
		Log:   counted(32, 40),
		Sec:   api.Epoch{Init: counted(32, 0), Send: counted(32, 10), Export: counted(32, 20), Confirm: counted(32, 30), Resume: counted(32, 40)},
		Chain: []api.Chain{{Secret: counted(32, 77)}, {Next: 5, Secret: counted(32, 78)}, {Next: lastPlace, Secret: counted(32, 79)}, {Next: 7, Secret: counted(32, 80)}},
	}
	if spares {
		g.Chain[1].Spare = []api.Lock{{At: 0, Key: counted(32, 1), Nonce: counted(12, 2)}, {At: 2, Key: counted(32, 3), Nonce: counted(12, 4)}}
		g.Chain[3].Spare = []api.Lock{{At: 6, Key: counted(32, 5), Nonce: counted(12, 6)}}
	}
	if shared {
		g.Psk = []api.Psk{{Id: 0, Secret: []byte{0}}, {Id: 4, Secret: []byte("four")}, {Id: 65535, Secret: counted(64, 9)}}
	}
	return g
}

// P15.1, P15.2: how many bytes there are, and their digests, as they were reckoned elsewhere; and they are decoded.
func TestToldElsewhere(t *testing.T) {
	for _, x := range []struct {
		spares, shared bool
		epoch, v, size int
		digest         string
	}{
		{false, false, 1<<32 - 1, 1, 797, "500d3a5c0c10d4568b67f525f78585b65d003603f1656f645e4fbde0c7b7ddbd"},
		{false, false, 1<<32 - 1, 2, 801, "6b58b9e8b1f1652f91bd0ee00e9d709d2ca137595611123ea40074f4f6a4d186"},
		{false, false, 1<<32 - 1, 3, 803, "bfd63bb5b148dc71d79550638fb341d88052dc93d677d98252993e81b5d9d2f9"},
		{false, false, 1<<32 - 1, 4, 805, "82235c918e48dec954aa4054d9c230d7ca14717fe934968942093782c8ea8480"},
		{true, false, 1<<32 - 1, 2, 951, "274ff88844eaa320ed09ba446854497859b4d4fbab7b850452e2464fb3b52dc2"},
		{true, false, 1<<32 - 1, 3, 953, "28a974a21e6ad6d0fbd4334798b51f34b82449445d11301d0ec5fff2fcc69866"},
		{true, false, 1<<32 - 1, 4, 955, "a61c7b3970d3e53ffc099994daaa92311333810a2dff34c9a34432105334281b"},
		{false, true, 1<<32 - 1, 3, 882, "b0a7cdad0df9d29a3ceb0ef114735393659a490d99f8dffb06cdebeddc3cf308"},
		{false, true, 1<<32 - 1, 4, 884, "50b2fb16e5b28780ffde948bf5a74f13c8c5f39a9079f6b3dde6a13a27d761c7"},
		{true, true, 1<<32 - 1, 3, 1032, "cbf33b9988fbbbfc8172384d0f64b4b67c19edc829f39a5ec7ca3524efebc392"},
		{true, true, 1<<32 - 1, 4, 1034, "e77422be2e7a81a371cc76bd623483822ad0fb9557393f8dff1969981c66761a"},
		{false, false, 1 << 32, 4, 805, "9e2fdd79b7135ecaa3a3bc45817268abcffa7b567998e4a230a37412fbb185fa"},
		{true, true, lastEpoch, 4, 1034, "3c8b0f8f021f964122fbab431d63a659d6b2fd4a1ddf6e98f52c0a2d5b3e05df"},
	} {
		g := ofFour(x.spares, x.shared, x.epoch)
		b, e := schema.Encode(x.v, g)
		if e != api.OK || len(b) != x.size || told(sha.Sum(b)) != x.digest {
			t.Errorf("version %d of %v: %d, %d bytes, %x", x.v, x, e, len(b), sha.Sum(b))
		}
		isDecoded(t, "of four", x.v, b, g)
	}
}

// P15.1: an epoch about 2^32, in each version: the last one that four bytes tell, and those behind it.
func TestEpochs(t *testing.T) {
	for epoch, want := range map[int]string{
		0:         "02 6964 000000000000",
		1<<32 - 2: "02 6964 0000fffffffe",
		1<<32 - 1: "02 6964 0000ffffffff",
		1 << 32:   "02 6964 000100000000",
		1<<32 + 1: "02 6964 000100000001",
		lastEpoch: "02 6964 fffffffffffe",
	} {
		g := ofFour(false, false, epoch)
		g.Id = []byte("id")
		head := unhex(t, want)
		for _, v := range versions {
			b, e := schema.Encode(v, g)
			switch {
			case v < 4 && epoch >= 1<<32:
				if e != api.ErrRep || b != nil || schema.Can(v, g) {
					t.Errorf("%d, version %d: %d, %x", epoch, v, e, b)
				}
			case v < 4:
				if e != api.OK || !bytes.HasPrefix(b, append(unhex(t, "026964"), head[5:]...)) || !schema.Can(v, g) {
					t.Errorf("%d, version %d: %d, %x", epoch, v, e, b)
				}
			default:
				if e != api.OK || !bytes.HasPrefix(b, head) || !schema.Can(v, g) {
					t.Errorf("%d, version %d: %d, %x", epoch, v, e, b)
				}
			}
		}
	}
}

// P15.1: one spare of any chain, of the first, the last, one between, is one too many for version 1; a list without elements, though it is there, isn't.
func TestAnySpare(t *testing.T) {
	g := ofMany(t)
	for i := range g.Chain {
		other := cloned(g)
		other.Chain[i].Spare = []api.Lock{}
		other.Psk = []api.Psk{}
		if !schema.Can(1, other) || schema.Least(other) != 1 {
			t.Errorf("no spares of chain %d: can't", i)
		}
		isEncoded(t, "no spares", 1, other, bytesOf(1, g), api.OK)
		other.Chain[i] = api.Chain{Next: 1, Secret: g.Chain[i].Secret, Spare: manySpares(1, 0)}
		isTold(t, sample{"a spare", 2, other})
	}
}
