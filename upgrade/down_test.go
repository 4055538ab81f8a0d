package upgrade_test

import (
	"bytes"
	"testing"

	"pyx/api"
	"pyx/upgrade"
)

var down = call{"Down", upgrade.Down}

// P16.3: groups of all kinds come out in each lesser version that can tell them, and in the same one; those that can't refuse them.
func TestDown(t *testing.T) {
	could := map[bool]int{}
	for _, x := range samples(t) {
		for v := x.least; v <= 4; v++ {
			b := bytesOf(t, v, x.g)
			for w := 1; w <= v; w++ {
				if w >= x.least {
					isAnswered(t, x.what, down, v, w, b, bytesOf(t, w, x.g), api.OK)
				} else {
					isRefused(t, x.what, down, v, w, b, api.ErrRep)
				}
				isAsModel(t, x.what, down, v, w, b)
				could[w >= x.least]++
			}
		}
	}
	if could[true] < 100 || could[false] < 100 {
		t.Error(could)
	}
}

// P16.3: one spare of any chain, one shared secret, an epoch of 2^32: each is one too many for the version ahead of those that tell it.
func TestDownOneTooMany(t *testing.T) {
	g := ofFour(false, false, 1<<32-1)
	for i := range g.Chain {
		other := ofFour(false, false, 1<<32-1)
		other.Chain[i] = spared(1, 1)
		b := bytesOf(t, 4, other)
		isRefused(t, "a spare", down, 4, 1, b, api.ErrRep)
		isAnswered(t, "a spare", down, 4, 2, b, bytesOf(t, 2, other), api.OK)
	}
	for _, name := range []int{0, 1, 65535} {
		other := g
		other.Psk = manyPsk(1, name, 1)
		b := bytesOf(t, 4, other)
		isRefused(t, "a shared secret", down, 4, 2, b, api.ErrRep)
		isAnswered(t, "a shared secret", down, 4, 3, b, bytesOf(t, 3, other), api.OK)
	}
	b := bytesOf(t, 4, g)
	for w := 1; w < 4; w++ {
		isAnswered(t, "the last early epoch", down, 4, w, b, bytesOf(t, w, g), api.OK)
		isRefused(t, "the first late epoch", down, 4, w, bytesOf(t, 4, ofFour(false, false, 1<<32)), api.ErrRep)
	}
}

// P16.3: what is no version is refused as such, though it be a greater one, ahead of what the bytes are.
func TestDownNoVersion(t *testing.T) {
	for _, b := range rows(t) {
		for _, v := range others {
			for _, w := range versions {
				isRefused(t, "from no version", down, v, w, b, api.ErrVersion)
				isRefused(t, "to no version", down, w, v, b, api.ErrVersion)
			}
		}
	}
	b := bytesOf(t, 4, ofFour(false, false, 9))
	for _, v := range others {
		for _, w := range others {
			isRefused(t, "both no versions", down, v, w, b, api.ErrVersion)
		}
	}
}

// P16.3: a greater version is refused, ahead of what the bytes are.
func TestDownGreater(t *testing.T) {
	for _, b := range rows(t) {
		for _, v := range versions {
			for w := v + 1; w <= 4; w++ {
				isRefused(t, "to a greater version", down, v, w, b, api.ErrArg)
			}
		}
	}
}

// isRefusedDown asks that bytes are refused to each version that isn't greater, with one error.
func isRefusedDown(t *testing.T, what string, v int, b []byte, e api.Errno) {
	t.Helper()
	for w := 1; w <= v; w++ {
		isRefused(t, what, down, v, w, b, e)
	}
}

// P16.3: bytes of no group are refused as such, ahead of what a version can tell: too many, none, each beginning, a byte more.
func TestDownRefused(t *testing.T) {
	for _, v := range versions {
		isRefusedDown(t, "nothing", v, nil, api.ErrForm)
		isRefusedDown(t, "as many as may be", v, make([]byte, mostBytes), api.ErrForm)
		isRefusedDown(t, "one more", v, make([]byte, mostBytes+1), api.ErrBig)
	}
	for _, x := range fours() {
		for v := x.least; v <= 4; v++ {
			b := bytesOf(t, v, x.g)
			for n := range b {
				isRefusedDown(t, x.what+", cut", v, b[:n], api.ErrForm)
			}
			for _, c := range []byte{0, 1, 255} {
				isRefusedDown(t, x.what+", a byte more", v, append(bytes.Clone(b), c), api.ErrForm)
			}
			isRefusedDown(t, x.what+", as many as may be", v, append(bytes.Clone(b), make([]byte, mostBytes-len(b))...), api.ErrForm)
			isRefusedDown(t, x.what+", one more", v, append(bytes.Clone(b), make([]byte, mostBytes+1-len(b))...), api.ErrBig)
		}
	}
}

// P16.3: each byte changed: refused, or another group, that comes out so, or can't.
func TestDownEachByte(t *testing.T) {
	for _, x := range fours() {
		for v := x.least; v <= 4; v++ {
			b := bytesOf(t, v, x.g)
			for at := range b {
				for _, by := range []byte{1, 128} {
					b[at] ^= by
					for w := 1; w <= v; w++ {
						isAsModel(t, x.what+", changed", down, v, w, b)
					}
					b[at] ^= by
				}
			}
		}
	}
}

// P16.3: the bytes of one version, told to be of another one, are refused.
func TestDownOtherVersion(t *testing.T) {
	for _, x := range samples(t) {
		for v := x.least; v <= 4; v++ {
			b := bytesOf(t, v, x.g)
			for _, other := range versions {
				if other != v {
					isRefusedDown(t, x.what+", in another version", other, b, api.ErrForm)
				}
			}
		}
	}
}
