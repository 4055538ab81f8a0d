package sig_test

import (
	library "crypto/aes"
	"crypto/cipher"
	"crypto/hmac"
	"crypto/sha256"
	"slices"
	"testing"

	"pyx/api"
	"pyx/kdf"
	"pyx/mac"
	"pyx/seal"
	"pyx/sig"
)

// tagElsewhere is the library's tag of rows, one behind the other.
func tagElsewhere(key []byte, rows ...[]byte) []byte {
	h := hmac.New(sha256.New, key)
	for _, row := range rows {
		h.Write(row)
	}
	return h.Sum(nil)
}

// sealedElsewhere is bytes that the library locks and tags, without what they belong to.
func sealedElsewhere(t *testing.T, key, nonce, b []byte) []byte {
	t.Helper()
	c, err := library.NewCipher(labelledElsewhere(t, key, "lock", nil, 16))
	if err != nil {
		t.Fatal(err)
	}
	locked := make([]byte, len(b))
	cipher.NewCTR(c, slices.Concat(nonce, []byte{0, 0, 0, 1})).XORKeyStream(locked, b)
	own := labelledElsewhere(t, key, "tag", nil, 32)
	return append(locked, tagElsewhere(own, []byte{0}, nonce, locked)...)
}

// wrappedElsewhere is what the library wraps for a public half.
func wrappedElsewhere(t *testing.T, public, once, info, b []byte) ([]byte, []byte) {
	t.Helper()
	half := publicElsewhere(t, once)
	secret := tagElsewhere(public, half)
	return half, sealedElsewhere(t, labelledElsewhere(t, secret, "key", info, 32), labelledElsewhere(t, secret, "nonce", info, 12), b)
}

// isWrapped asks that Wrap answers what the library has, and that Unwrap takes it.
func isWrapped(t *testing.T, seed, once, info, b []byte) {
	t.Helper()
	public := publicOf(t, seed)
	half, box, e := sig.Wrap(public, once, info, b)
	wantHalf, wantBox := wrappedElsewhere(t, public, once, info, b)
	isRow(t, half, e, wantHalf)
	isRow(t, box, e, wantBox)
	got, e := sig.Unwrap(seed, half, info, box)
	isRow(t, got, e, b)
}

// isNoneOfBoth asks that Wrap answered that error, and nothing beside it.
func isNoneOfBoth(t *testing.T, half, box []byte, e, want api.Errno) {
	t.Helper()
	isNone(t, half, e, want)
	isNone(t, box, e, want)
}

// P7.3, P7.4: what was wrapped elsewhere.
func TestWrapToldElsewhere(t *testing.T) {
	for _, x := range []struct {
		seed, once, info, b []byte
		half, box           string
	}{
		{counted(32, 1), counted(32, 200), []byte{9}, []byte("secret"), "41bbbc90c70e69c9878354170fd2481e548d2b941442a5fd7e5ad32486eb3782", "46476bdc8509076112d7d08d17bd3fcb597b308ccf2a1c798779a453b60924e6fe07432b2872"},
		{make([]byte, 32), full(32), nil, nil, "ebf0a16757c5c246d0d8e7c6e0893f7cd38fc11dbf3543f7ddbc52b3e66c406f", "06b429d05990d211b1fa26c605c37cc299cbb9a71a6544c3f2d6638e1ad96dbb"},
		{full(32), make([]byte, 32), counted(64, 7), make([]byte, 33), "a5ec6dd57f8fbc29b6b9b57c7365ce8b7eaac3232901014d210fbc5f50b399da", "d49ba2c93b2df7f619bce18229bd0b4aad48498215c2b0dca0348c03985eb666392416d9c99bbf91fd8cda3ad5643ec00a7543dc5edc60770068a2b87bb9c625f5"},
		{counted(32, 1), counted(32, 1), nil, counted(32, 1), "70b16d5f08cb17398763f01b48ecb09f95180b124375aebef5298e5c80d47e71", "bc872c99c82c4c3d02ae770c990758dd406dab7fd4ba09c431d58b1f74def5cfa2de3a4a614e90588ca55eef8f70377622a452b7f51a06d3a4f79531eedf0e44"},
	} {
		half, box, e := sig.Wrap(publicOf(t, x.seed), x.once, x.info, x.b)
		isRow(t, half, e, unhex(t, x.half))
		isRow(t, box, e, unhex(t, x.box))
		got, e := sig.Unwrap(x.seed, unhex(t, x.half), x.info, unhex(t, x.box))
		isRow(t, got, e, x.b)
	}
}

// P7.3: by the document's words, of the layers below: the half of what is used once, and sealed bytes under the labels of the tag of that half.
func TestWrapByLayers(t *testing.T) {
	for _, once := range seeds()[:20] {
		for _, n := range lengths {
			public, info, b := publicOf(t, filled(32)), filled(n%70), filled(n)
			own := publicOf(t, once)
			secret := mac.Sum(public, own)
			key, _ := kdf.Label(secret, "key", info, 32)
			nonce, _ := kdf.Label(secret, "nonce", info, 12)
			want, _ := seal.Seal(key, nonce, nil, b)
			half, box, e := sig.Wrap(public, once, info, b)
			isRow(t, half, e, own)
			isRow(t, box, e, want)
		}
	}
}

// P7.3, P7.4, P7.5: of seeds, infos and counts of bytes, as the library has it; what is wrapped is unwrapped.
func TestWrap(t *testing.T) {
	for _, seed := range seeds() {
		isWrapped(t, seed, filled(32), filled(5), filled(32))
		isWrapped(t, filled(32), seed, nil, filled(32))
		isWrapped(t, seed, seed, filled(5), seed)
	}
	for _, n := range lengths {
		for _, m := range lengths {
			isWrapped(t, filled(32), counted(32, 9), filled(m), filled(n))
		}
	}
	isWrapped(t, filled(32), counted(32, 9), make([]byte, 1<<17), filled(1<<20+5))
}

// P7.3: nothing wrapped is 32 bytes, and 32; no info is one without bytes.
func TestWrapOfNothing(t *testing.T) {
	for _, nothing := range [][]byte{nil, {}, filled(9)[9:]} {
		for _, n := range lengths {
			isWrapped(t, filled(32), counted(32, 9), filled(n), nothing)
			isWrapped(t, filled(32), counted(32, 9), nothing, filled(n))
		}
		half, box, e := sig.Wrap(publicOf(t, filled(32)), counted(32, 9), nothing, nothing)
		if e != api.OK || len(half) != 32 || len(box) != 32 {
			t.Errorf("nothing wrapped: %x, %x, %d", half, box, e)
		}
		got, e := sig.Unwrap(filled(32), half, nil, box)
		isRow(t, got, e, nil)
		got, e = sig.Unwrap(filled(32), half, []byte{0}, box)
		isNone(t, got, e, api.ErrKey)
	}
}

// P7.3: any public half of 32 bytes is wrapped for, even one that is no seed's; what comes out has 32 bytes, and 32 more than what is wrapped.
func TestWrapForAny(t *testing.T) {
	for _, public := range seeds() {
		for _, n := range []int{0, 1, 32, 33} {
			half, box, e := sig.Wrap(public, filled(32), filled(3), filled(n))
			wantHalf, wantBox := wrappedElsewhere(t, public, filled(32), filled(3), filled(n))
			isRow(t, half, e, wantHalf)
			isRow(t, box, e, wantBox)
			if len(half) != 32 || len(box) != n+32 {
				t.Errorf("%d bytes wrapped: %d, %d", n, len(half), len(box))
			}
		}
	}
}

// P7.3: another public half, seed that is used once, or info, makes other bytes; the half hangs on that seed alone.
func TestWrapTellsArguments(t *testing.T) {
	halves, boxes := map[string]bool{}, map[string]bool{}
	many := 0
	for _, seed := range seeds()[:67] {
		for _, once := range seeds()[:20] {
			for _, info := range [][]byte{nil, {0}, {1}, {0, 0}, []byte("info")} {
				half, box, _ := sig.Wrap(publicOf(t, seed), once, info, make([]byte, 32))
				halves[string(half)], boxes[string(box)] = true, true
				boxes[string(box[:32])], boxes[string(box[32:])] = true, true
				many += 3
			}
		}
	}
	if len(halves) != 20 || len(boxes) != many {
		t.Errorf("%d halves, %d boxes and pieces of such; want 20, %d", len(halves), len(boxes), many)
	}
}

// P7.3: public halves, and seeds that are used once, of another count of bytes than 32, 31 and 33 among them, whatever is to be wrapped.
func TestWrapRefuses(t *testing.T) {
	for _, b := range [][]byte{nil, filled(32), filled(100)} {
		for _, n := range wrongCounts() {
			half, box, e := sig.Wrap(filled(n), filled(32), b, b)
			isNoneOfBoth(t, half, box, e, api.ErrArg)
			half, box, e = sig.Wrap(filled(32), filled(n), b, b)
			isNoneOfBoth(t, half, box, e, api.ErrArg)
			half, box, e = sig.Wrap(filled(n), filled(n), b, b)
			isNoneOfBoth(t, half, box, e, api.ErrArg)
		}
		for _, x := range [][2]int{{0, 0}, {31, 33}, {33, 31}, {0, 32}, {32, 0}, {0, 64}, {64, 0}} {
			half, box, e := sig.Wrap(make([]byte, x[0], 64), make([]byte, x[1], 64), b, b)
			isNoneOfBoth(t, half, box, e, api.ErrArg)
		}
	}
	half, box, e := sig.Wrap(nil, nil, nil, nil)
	isNoneOfBoth(t, half, box, e, api.ErrArg)
}

// P7.3, P7.4: an info of more bytes than a row may have has no row, and so no key.
func TestInfoTooLong(t *testing.T) {
	half, box, e := sig.Wrap(filled(32), filled(32), zeros[:], filled(3))
	isNoneOfBoth(t, half, box, e, api.ErrArg)
	for _, n := range []int{0, 31, 32, 33} {
		got, e := sig.Unwrap(filled(32), filled(32), zeros[:], filled(n))
		isNone(t, got, e, api.ErrArg)
	}
}
