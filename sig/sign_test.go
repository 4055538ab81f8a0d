package sig_test

import (
	"bytes"
	"crypto/hmac"
	"crypto/sha256"
	"slices"
	"strings"
	"testing"
	"unsafe"

	"pyx/api"
	"pyx/byt"
	"pyx/mac"
	"pyx/sig"
)

// labels of any lengths: with what stands ahead of them 63 and 64 bytes, 16383 and 16384 are edges of a length; and such whose bytes are no letters, or no signs at all.
func labels() []string {
	out := []string{"", "\x00", "\x00\x00", "l", "lea", "leaf", "leaf ", "MLS 1.0 ", "Ümläut ∀", "\xff\xfe\x80", "a\x00b", "\n\t\x7f\x01"}
	for _, n := range []int{54, 55, 56, 57, 63, 64, 16374, 16375, 16376, 16384} {
		out = append(out, strings.Repeat("l", n))
	}
	return out
}

// zeros are more bytes than a row may have. They stand outside all functions, where they take no memory as long as nobody writes into them; what is refused isn't copied.
var zeros [api.MaxLen + 1]byte

// lengths are those about the edges of a row's length, of a digest, and of its block.
var lengths = []int{0, 1, 2, 15, 16, 17, 31, 32, 33, 62, 63, 64, 65, 100, 128, 255, 256, 1000, 16382, 16383, 16384, 16385}

// signElsewhere is the library's tag of the two rows, under a public half.
func signElsewhere(t *testing.T, public []byte, label string, b []byte) []byte {
	t.Helper()
	h := hmac.New(sha256.New, public)
	h.Write(rowOf(t, []byte("MLS 1.0 "+label)))
	h.Write(rowOf(t, b))
	return h.Sum(nil)
}

// isSigned asks that Sign answers what the library has, and that Verify takes it, and the library's.
func isSigned(t *testing.T, seed []byte, label string, b []byte) {
	t.Helper()
	public := publicElsewhere(t, seed)
	want := signElsewhere(t, public, label, b)
	got, e := sig.Sign(seed, label, b)
	isRow(t, got, e, want)
	isErrno(t, sig.Verify(publicOf(t, seed), label, b, got), api.OK)
	isErrno(t, sig.Verify(public, label, b, want), api.OK)
}

// signOf is what Sign answers.
func signOf(t *testing.T, seed []byte, label string, b []byte) []byte {
	t.Helper()
	sign, e := sig.Sign(seed, label, b)
	if e != api.OK {
		t.Fatal(e)
	}
	return sign
}

// P7.2: signatures that were reckoned elsewhere.
func TestSignToldElsewhere(t *testing.T) {
	for _, x := range []struct {
		seed  []byte
		label string
		b     []byte
		want  string
	}{
		{counted(32, 1), "leaf", []byte{1, 2, 3}, "2578e001569da3789ba7477978f87fd5c5b8620ad7aa255d89181d9c594c860f"},
		{make([]byte, 32), "", nil, "737112768395449f46c86b84502a908b1a42cf2851b8643f96f5a30960200842"},
		{full(32), "", []byte("abc"), "b46def9adeaf67a08bd3026e509e9557bce6384e506cb64fa33e218afbf39ca9"},
		{counted(32, 1), "\x00\xff\xe2\x88\x80 \n", nil, "9be9adeb87291395c45a500e819f8fa40722ee4f33f866429ef861e5c05aa49b"},
		{counted(32, 200), strings.Repeat("l", 56), counted(64, 5), "adadbf0a2113040ca063bfe912c3d692a0438798e66ec79630cb167e8010c1b5"},
	} {
		got, e := sig.Sign(x.seed, x.label, x.b)
		isRow(t, got, e, unhex(t, x.want))
		isErrno(t, sig.Verify(publicOf(t, x.seed), x.label, x.b, unhex(t, x.want)), api.OK)
	}
}

// P7.2: by the document's words, of the layers below: the tag, under the public half, of the two rows.
func TestSignByLayers(t *testing.T) {
	for _, label := range labels() {
		for _, n := range lengths {
			head, _ := byt.Row([]byte("MLS 1.0 " + label))
			row, _ := byt.Row(filled(n))
			got, e := sig.Sign(filled(32), label, filled(n))
			isRow(t, got, e, mac.Sum(publicOf(t, filled(32)), slices.Concat(head, row)))
		}
	}
}

// P7.2, P7.5: of seeds, labels and counts of bytes, as the library has it; what is signed is verified.
func TestSign(t *testing.T) {
	for _, seed := range seeds() {
		isSigned(t, seed, "leaf", filled(33))
	}
	for _, label := range labels() {
		for _, n := range lengths {
			isSigned(t, filled(32), label, filled(n))
		}
	}
	for n := range 130 {
		isSigned(t, filled(32), strings.Repeat("x", n), filled(129-n))
	}
	isSigned(t, filled(32), strings.Repeat("\xff", 1<<17), make([]byte, 1<<20+5))
}

// P7.2: nothing signed, and an empty label: a row without bytes is a row too.
func TestSignOfNothing(t *testing.T) {
	for _, nothing := range [][]byte{nil, {}, filled(9)[9:]} {
		for _, label := range labels() {
			isSigned(t, filled(32), label, nothing)
		}
		none := signOf(t, filled(32), "", nothing)
		isErrno(t, sig.Verify(publicOf(t, filled(32)), "", nil, none), api.OK)
		isErrno(t, sig.Verify(publicOf(t, filled(32)), "", []byte{0}, none), api.ErrKey)
		isErrno(t, sig.Verify(publicOf(t, filled(32)), "\x00", nil, none), api.ErrKey)
	}
}

// P7.2: another seed, label, or row of bytes, make another signature, even if what ends the one begins the other.
func TestSignTellsArguments(t *testing.T) {
	seen := map[string]bool{}
	many := 0
	for _, seed := range seeds()[:131] {
		for _, label := range []string{"", "l", "le", "lea", "leaf", "leaf\x00", "\x00"} {
			for _, b := range []string{"", "leaf", "eaf", "af", "f", "\x00", "\x01f", "\x00\x00"} {
				seen[string(signOf(t, seed, label, []byte(b)))] = true
				many++
			}
		}
	}
	if len(seen) != many {
		t.Errorf("%d signatures; want %d", len(seen), many)
	}
}

// P7.2: bytes that go over from the label into what is signed, or back, are others, though all stand in the same order; of two labels the one begins the other.
func TestVerifyTellsWhereLabelEnds(t *testing.T) {
	public := publicOf(t, filled(32))
	for _, all := range []string{"leaf and what is signed", strings.Repeat("\x00", 20), "\x02\x01\x00\x02\x01\x00\x02\x01\x00"} {
		for end := range len(all) + 1 {
			sign := signOf(t, filled(32), all[:end], []byte(all[end:]))
			for other := range len(all) + 1 {
				want := api.ErrKey
				if other == end {
					want = api.OK
				}
				isErrno(t, sig.Verify(public, all[:other], []byte(all[other:]), sign), want)
				isErrno(t, sig.Verify(public, all[:other], []byte(all[end:]), sign), want)
			}
		}
	}
}

// P7.2: each byte of a signature, changed in any of its bits, one by one, or in all of them.
func TestVerifyOfChanged(t *testing.T) {
	public := publicOf(t, filled(32))
	for _, n := range []int{0, 1, 40} {
		sign := signOf(t, filled(32), "leaf", filled(n))
		for i := range sign {
			for _, bits := range []byte{1, 2, 4, 8, 16, 32, 64, 128, 255} {
				changed := bytes.Clone(sign)
				changed[i] ^= bits
				isErrno(t, sig.Verify(public, "leaf", filled(n), changed), api.ErrKey)
			}
		}
		isErrno(t, sig.Verify(public, "leaf", filled(n), sign), api.OK)
	}
}

// P7.2: signatures that lack bytes at either end, 31 of them and none among them, or have more there.
func TestVerifyOfOtherLengths(t *testing.T) {
	public := publicOf(t, filled(32))
	for _, n := range []int{0, 1, 40} {
		sign := signOf(t, filled(32), "leaf", filled(n))
		refuses := func(other []byte) {
			t.Helper()
			isErrno(t, sig.Verify(public, "leaf", filled(n), other), api.ErrKey)
		}
		for cut := 1; cut <= 32; cut++ {
			refuses(sign[:32-cut])
			refuses(sign[cut:])
			refuses(make([]byte, 32-cut, 64))
		}
		for _, more := range [][]byte{{0}, {1}, sign[:1], make([]byte, 32), sign} {
			refuses(slices.Concat(sign, more))
			refuses(slices.Concat(more, sign))
		}
		refuses(nil)
		refuses(slices.Concat(sign[16:], sign[:16]))
		refuses(make([]byte, 32))
		refuses(public)
	}
}

// P7.2: a public half, a label, or bytes, that aren't those.
func TestVerifyWithOthers(t *testing.T) {
	seed, b, label := filled(32), filled(20), []byte("leaf")
	public, sign := publicOf(t, seed), signOf(t, seed, "leaf", b)
	for _, own := range [][]byte{public, label, b} {
		for bit := range 8 * len(own) {
			own[bit/8] ^= 1 << (bit % 8)
			isErrno(t, sig.Verify(public, string(label), b, sign), api.ErrKey)
			own[bit/8] ^= 1 << (bit % 8)
		}
	}
	isErrno(t, sig.Verify(public, string(label), b, sign), api.OK)
	for _, other := range [][]byte{seed, publicOf(t, public), publicOf(t, full(32)), make([]byte, 32)} {
		isErrno(t, sig.Verify(other, "leaf", b, sign), api.ErrKey)
	}
	for _, other := range []string{"", "l", "lea", "leaf\x00", "leaf ", "Leaf", "LEAF", " leaf", "MLS 1.0 leaf"} {
		isErrno(t, sig.Verify(public, other, b, sign), api.ErrKey)
	}
	for _, other := range [][]byte{nil, b[:19], b[1:], append(filled(20), 0), append([]byte{0}, b...), append([]byte{20}, b...)} {
		isErrno(t, sig.Verify(public, "leaf", other, sign), api.ErrKey)
	}
}

// P7.2: a signature by tags alone: under the seed, without a row's length, without what stands ahead of the label.
func TestVerifyOfOtherTags(t *testing.T) {
	seed, b := filled(32), filled(20)
	public := publicOf(t, seed)
	for _, other := range [][]byte{
		mac.Sum(seed, slices.Concat([]byte("\x0cMLS 1.0 leaf\x14"), b)),
		mac.Sum(public, slices.Concat([]byte("MLS 1.0 leaf"), b)),
		mac.Sum(public, slices.Concat([]byte("\x0cMLS 1.0 leaf"), b)),
		mac.Sum(public, slices.Concat([]byte("MLS 1.0 leaf\x14"), b)),
		mac.Sum(public, slices.Concat([]byte("\x04leaf\x14"), b)),
		mac.Sum(public, b),
	} {
		isErrno(t, sig.Verify(public, "leaf", b, other), api.ErrKey)
	}
	isErrno(t, sig.Verify(public, "leaf", b, mac.Sum(public, slices.Concat([]byte("\x0cMLS 1.0 leaf\x14"), b))), api.OK)
}

// P7.2: seeds of another count of bytes than 32, 31 and 33 among them, whatever is to be signed.
func TestSignRefuses(t *testing.T) {
	for _, n := range wrongCounts() {
		for _, label := range []string{"", "leaf"} {
			for _, b := range [][]byte{nil, filled(32), filled(100)} {
				got, e := sig.Sign(filled(n), label, b)
				isNone(t, got, e, api.ErrArg)
			}
		}
	}
	got, e := sig.Sign(nil, "", nil)
	isNone(t, got, e, api.ErrArg)
}

// P7.2: public halves of another count of bytes than 32, 31 and 33 among them, though the signature be the tag under them.
func TestVerifyRefuses(t *testing.T) {
	for _, n := range wrongCounts() {
		for _, public := range [][]byte{filled(n), make([]byte, n, n+32)} {
			for _, sign := range [][]byte{nil, filled(31), filled(32), filled(33), signElsewhere(t, public, "leaf", filled(3))} {
				isErrno(t, sig.Verify(public, "leaf", filled(3), sign), api.ErrArg)
			}
		}
	}
	// A byte 00 behind a key makes the same tag: not so a public half of 33 bytes the same signature.
	public, sign := publicOf(t, filled(32)), signOf(t, filled(32), "leaf", filled(3))
	isErrno(t, sig.Verify(append(public, 0), "leaf", filled(3), sign), api.ErrArg)
	isErrno(t, sig.Verify(public[:31], "leaf", filled(3), sign), api.ErrArg)
	isErrno(t, sig.Verify(nil, "", nil, nil), api.ErrArg)
}

// P7.2: of more bytes than a row may have there is no row, and so no signature, nor one that is right.
func TestSignOfLongRows(t *testing.T) {
	label := unsafe.String(&zeros[0], api.MaxLen-7)
	got, e := sig.Sign(filled(32), "leaf", zeros[:])
	isNone(t, got, e, api.ErrArg)
	got, e = sig.Sign(filled(32), label, nil)
	isNone(t, got, e, api.ErrArg)
	for _, sign := range [][]byte{nil, {}, filled(32), signOf(t, filled(32), "leaf", nil), signOf(t, filled(32), "", nil)} {
		isErrno(t, sig.Verify(publicOf(t, filled(32)), "leaf", zeros[:], sign), api.ErrKey)
		isErrno(t, sig.Verify(publicOf(t, filled(32)), label, nil, sign), api.ErrKey)
		isErrno(t, sig.Verify(filled(31), "leaf", zeros[:], sign), api.ErrArg)
		isErrno(t, sig.Verify(filled(33), label, nil, sign), api.ErrArg)
	}
}

// FuzzVerify: whatever is told, Verify ends with the error that applies, or with OK of what the library has.
func FuzzVerify(f *testing.F) {
	sign, _ := sig.Sign(filled(32), "leaf", filled(20))
	public, _ := sig.Public(filled(32))
	f.Add(public, "leaf", filled(20), sign)
	f.Add(public, "lea", filled(20), sign)
	f.Add(public, "leaf", filled(19), sign[:31])
	f.Add(public[:31], "", []byte{}, []byte{})
	f.Fuzz(func(t *testing.T, public []byte, label string, b, sign []byte) {
		want := api.ErrArg
		if len(public) == 32 {
			want = api.ErrKey
			if bytes.Equal(sign, signElsewhere(t, public, label, b)) {
				want = api.OK
			}
		}
		isErrno(t, sig.Verify(public, label, b, sign), want)
	})
}
