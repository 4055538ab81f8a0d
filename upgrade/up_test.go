package upgrade_test

import (
	"bytes"
	"testing"

	"pyx/api"
	"pyx/schema"
	"pyx/sha"
	"pyx/upgrade"
)

// up is Up, told as the calls are that have two versions: to where it goes it knows itself.
var up = call{"Up", func(v, w int, b []byte) ([]byte, api.Errno) { return upgrade.Up(v, b) }}

var to = call{"To", upgrade.To}

// P16.1: groups of all kinds come out in the next version, from each one that can tell them.
func TestUp(t *testing.T) {
	for _, x := range samples(t) {
		if schema.Least(x.g) != x.least {
			t.Fatalf("%s isn't such as it is to be", x.what)
		}
		for v := x.least; v < 4; v++ {
			b, want := bytesOf(t, v, x.g), bytesOf(t, v+1, x.g)
			isAnswered(t, x.what, up, v, v+1, b, want, api.OK)
			isAsModel(t, x.what, up, v, v+1, b)
		}
	}
}

// P16.2: and in each greater version, and in the same one.
func TestTo(t *testing.T) {
	for _, x := range samples(t) {
		for v := x.least; v <= 4; v++ {
			b := bytesOf(t, v, x.g)
			for w := v; w <= 4; w++ {
				isAnswered(t, x.what, to, v, w, b, bytesOf(t, w, x.g), api.OK)
				isAsModel(t, x.what, to, v, w, b)
			}
		}
	}
}

// P16.1, P16.2: the bytes of a group of one, part by part, as they are in one version and in the others.
func TestBytesOfOne(t *testing.T) {
	ahead := "02 6964 "
	behind := "0001 01 0102 20 70b16d5f08cb17398763f01b48ecb09f95180b124375aebef5298e5c80d47e71 20 c8c9cacbcccdcecfd0d1d2d3d4d5d6d7d8d9dadbdcdddedfe0e1e2e3e4e5e6e7 0000 " +
		"0000 0001 0000 20 0102030405060708090a0b0c0d0e0f101112131415161718191a1b1c1d1e1f20 " +
		"20 28292a2b2c2d2e2f303132333435363738393a3b3c3d3e3f4041424344454647 " +
		"20 000102030405060708090a0b0c0d0e0f101112131415161718191a1b1c1d1e1f " +
		"20 0a0b0c0d0e0f101112131415161718191a1b1c1d1e1f20212223242526272829 " +
		"20 1415161718191a1b1c1d1e1f202122232425262728292a2b2c2d2e2f30313233 " +
		"20 1e1f202122232425262728292a2b2c2d2e2f303132333435363738393a3b3c3d " +
		"20 28292a2b2c2d2e2f303132333435363738393a3b3c3d3e3f4041424344454647 " +
		"0001 0a0b0c0d 20 4d4e4f505152535455565758595a5b5c5d5e5f606162636465666768696a6b6c"
	spare := "01 00000001 20 0102030405060708090a0b0c0d0e0f101112131415161718191a1b1c1d1e1f20 0c 0102030405060708090a0b0c"
	shared := "0002 0102 01 07 ffff 02 0809"
	early, late := "fffffffe ", "0000fffffffe "
	for _, rows := range [][]string{
		{"", ahead + early + behind, ahead + early + behind + "00", ahead + early + behind + "00 0000", ahead + late + behind + "00 0000"},
		{"", "", ahead + early + behind + spare, ahead + early + behind + spare + "0000", ahead + late + behind + spare + "0000"},
		{"", "", "", ahead + early + behind + "00" + shared, ahead + late + behind + "00" + shared},
		{"", "", "", ahead + early + behind + spare + shared, ahead + late + behind + spare + shared},
		{"", "", "", "", ahead + "000100000000" + behind + spare + shared},
	} {
		for _, v := range versions {
			if rows[v] == "" {
				continue
			}
			b := unhex(t, rows[v])
			for _, w := range versions {
				want := unhex(t, rows[w])
				switch {
				case w < v && rows[w] == "":
					isRefused(t, "of one", down, v, w, b, api.ErrRep)
				case w < v:
					isAnswered(t, "of one", down, v, w, b, want, api.OK)
				case w == v:
					isAnswered(t, "of one", to, v, w, b, want, api.OK)
					isAnswered(t, "of one", down, v, w, b, want, api.OK)
				case w == v+1:
					isAnswered(t, "of one", up, v, w, b, want, api.OK)
					fallthrough
				default:
					isAnswered(t, "of one", to, v, w, b, want, api.OK)
				}
			}
		}
	}
}

// P16.1, P16.2: how many bytes come of a group of four, and their digests, as they were reckoned elsewhere.
func TestElsewhere(t *testing.T) {
	type result struct {
		size   int
		digest string
	}
	for _, x := range []struct {
		spares, shared bool
		least          int
		want           [5]result
	}{
		{false, false, 1, [5]result{
			1: {797, "500d3a5c0c10d4568b67f525f78585b65d003603f1656f645e4fbde0c7b7ddbd"},
			2: {801, "6b58b9e8b1f1652f91bd0ee00e9d709d2ca137595611123ea40074f4f6a4d186"},
			3: {803, "bfd63bb5b148dc71d79550638fb341d88052dc93d677d98252993e81b5d9d2f9"},
			4: {805, "82235c918e48dec954aa4054d9c230d7ca14717fe934968942093782c8ea8480"},
		}},
		{true, false, 2, [5]result{
			2: {951, "274ff88844eaa320ed09ba446854497859b4d4fbab7b850452e2464fb3b52dc2"},
			3: {953, "28a974a21e6ad6d0fbd4334798b51f34b82449445d11301d0ec5fff2fcc69866"},
			4: {955, "a61c7b3970d3e53ffc099994daaa92311333810a2dff34c9a34432105334281b"},
		}},
		{false, true, 3, [5]result{
			3: {882, "b0a7cdad0df9d29a3ceb0ef114735393659a490d99f8dffb06cdebeddc3cf308"},
			4: {884, "50b2fb16e5b28780ffde948bf5a74f13c8c5f39a9079f6b3dde6a13a27d761c7"},
		}},
		{true, true, 3, [5]result{
			3: {1032, "cbf33b9988fbbbfc8172384d0f64b4b67c19edc829f39a5ec7ca3524efebc392"},
			4: {1034, "e77422be2e7a81a371cc76bd623483822ad0fb9557393f8dff1969981c66761a"},
		}},
	} {
		for v := x.least; v <= 4; v++ {
			b := bytesOf(t, v, ofFour(x.spares, x.shared, 1<<32-1))
			for w := x.least; w <= 4; w++ {
				c := to
				if w < v {
					c = down
				}
				out, e := c.do(v, w, b)
				if e != api.OK || len(out) != x.want[w].size || told(sha.Sum(out)) != x.want[w].digest {
					t.Errorf("%s from %d to %d: %d, %d bytes, %x", c.what, v, w, e, len(out), sha.Sum(out))
				}
			}
		}
	}
}

// rows are bytes of all kinds: right ones of each version, some that are spoilt, none, and too many.
func rows(t *testing.T) [][]byte {
	t.Helper()
	out := [][]byte{nil, {}, {0}, {1, 2, 3}, make([]byte, mostBytes), make([]byte, mostBytes+1), make([]byte, 2*mostBytes)}
	for _, x := range fours() {
		for v := x.least; v <= 4; v++ {
			b := bytesOf(t, v, x.g)
			out = append(out, b, b[:len(b)-1], append(bytes.Clone(b), 0), append(bytes.Clone(b), make([]byte, mostBytes)...))
		}
	}
	return out
}

// P16.1: what is no version, and the greatest one, are refused as such, whatever the bytes are.
func TestUpNoVersion(t *testing.T) {
	for _, b := range rows(t) {
		for _, v := range append([]int{4}, others...) {
			isRefused(t, "no version", up, v, v+1, b, api.ErrVersion)
		}
	}
}

// P16.2: and so is whatever goes from, or to, what is no version, though it be a lesser one, ahead of what the bytes are.
func TestToNoVersion(t *testing.T) {
	for _, b := range rows(t) {
		for _, v := range others {
			for _, w := range versions {
				isRefused(t, "from no version", to, v, w, b, api.ErrVersion)
				isRefused(t, "to no version", to, w, v, b, api.ErrVersion)
			}
		}
	}
	b := bytesOf(t, 1, ofFour(false, false, 9))
	for _, v := range others {
		for _, w := range others {
			isRefused(t, "both no versions", to, v, w, b, api.ErrVersion)
		}
	}
}

// P16.2: a lesser version is refused as such, ahead of what the bytes are.
func TestToLesser(t *testing.T) {
	for _, b := range rows(t) {
		for _, v := range versions {
			for w := range v {
				if w > 0 {
					isRefused(t, "to a lesser version", to, v, w, b, api.ErrDown)
				}
			}
		}
	}
}

// goesUp makes calls that go up from a version, and to itself, of bytes of any kind.
func goesUp(t *testing.T, what string, v int, b []byte) {
	t.Helper()
	if v < 4 {
		isAsModel(t, what, up, v, v+1, b)
	}
	for w := v; w <= 4; w++ {
		isAsModel(t, what, to, v, w, b)
	}
}

// isRefusedUp asks that they are refused with one error.
func isRefusedUp(t *testing.T, what string, v int, b []byte, e api.Errno) {
	t.Helper()
	if v < 4 {
		isRefused(t, what, up, v, v+1, b, e)
	}
	for w := v; w <= 4; w++ {
		isRefused(t, what, to, v, w, b, e)
	}
}

// P16.1, P16.2: bytes of 2^20 may be a group's, though no right one has as many; one more is too many, whatever they begin with.
func TestUpBig(t *testing.T) {
	for _, v := range versions {
		right := bytesOf(t, v, ofFour(false, false, 9))
		for n, e := range map[int]api.Errno{0: api.ErrForm, 1: api.ErrForm, mostBytes - 1: api.ErrForm, mostBytes: api.ErrForm, mostBytes + 1: api.ErrBig, 2 * mostBytes: api.ErrBig} {
			isRefusedUp(t, "zeros", v, make([]byte, n), e)
			isRefusedUp(t, "all bits", v, bytes.Repeat([]byte{255}, n), e)
			if n > 1 {
				isRefusedUp(t, "a group, and more", v, append(bytes.Clone(right), make([]byte, n-len(right))...), e)
			}
		}
		isRefusedUp(t, "nothing", v, nil, api.ErrForm)
	}
}

// P16.1, P16.2: each beginning of a group's bytes, and those with a byte more, are refused.
func TestUpLessAndMore(t *testing.T) {
	for _, x := range fours() {
		for v := x.least; v <= 4; v++ {
			b := bytesOf(t, v, x.g)
			for n := range b {
				isRefusedUp(t, x.what+", cut", v, b[:n], api.ErrForm)
			}
			for _, c := range []byte{0, 1, 255} {
				isRefusedUp(t, x.what+", a byte more", v, append(bytes.Clone(b), c), api.ErrForm)
				isRefusedUp(t, x.what+", a byte ahead", v, append([]byte{c}, b...), api.ErrForm)
			}
			isRefusedUp(t, x.what+", twice", v, append(bytes.Clone(b), b...), api.ErrForm)
		}
	}
}

// P16.1, P16.2: each byte changed: refused, or another group, that comes out so.
func TestUpEachByte(t *testing.T) {
	for _, x := range fours() {
		for v := x.least; v <= 4; v++ {
			b := bytesOf(t, v, x.g)
			for at := range b {
				for _, by := range []byte{1, 128} {
					b[at] ^= by
					goesUp(t, x.what+", changed", v, b)
					b[at] ^= by
				}
			}
		}
	}
}

// P16.1, P16.2: the bytes of one version, told to be of another one, are refused.
func TestUpOtherVersion(t *testing.T) {
	for _, x := range samples(t) {
		for v := x.least; v <= 4; v++ {
			b := bytesOf(t, v, x.g)
			for _, other := range versions {
				if other != v {
					isRefusedUp(t, x.what+", in another version", other, b, api.ErrForm)
				}
			}
		}
	}
}
