package byt_test

import (
	"bytes"
	"encoding/hex"
	"strings"
	"testing"

	"pyx/api"
	"pyx/byt"
)

// P1.4: two figures for each byte, the higher half first.
func TestText(t *testing.T) {
	if s := byt.Text(nil); s != "" {
		t.Errorf("of nothing: %q", s)
	}
	for c := range 256 {
		if s := byt.Text([]byte{byte(c)}); s != hex.EncodeToString([]byte{byte(c)}) {
			t.Errorf("of %d: %q", c, s)
		}
	}
	if s := byt.Text([]byte{0x00, 0x01, 0x23, 0x45, 0x67, 0x89, 0xab, 0xcd, 0xef, 0xf0}); s != "000123456789abcdeff0" {
		t.Errorf("of ten: %q", s)
	}
	if x := filled(1000); byt.Text(x) != hex.EncodeToString(x) {
		t.Error("of a thousand")
	}
}

// P1.4: a text's bytes are those whose text it is.
func TestBytes(t *testing.T) {
	if b, e := byt.Bytes(""); e != api.OK || len(b) != 0 {
		t.Errorf("of nothing: %x, %d", b, e)
	}
	for _, x := range [][]byte{{0}, {0xff}, {0x0f, 0xf0}, {0x01, 0x23, 0x45, 0x67, 0x89, 0xab, 0xcd, 0xef}, filled(1000)} {
		if b, e := byt.Bytes(hex.EncodeToString(x)); e != api.OK || !bytes.Equal(b, x) {
			t.Errorf("of %x: %x, %d", x, b, e)
		}
	}
}

// P1.4: of all that two bytes may be, only two figures are a text, and of the small letters alone.
func TestBytesOfTwo(t *testing.T) {
	const figures = "0123456789abcdef"
	for i := range 1 << 16 {
		s := string([]byte{byte(i >> 8), byte(i)})
		high, low := strings.IndexByte(figures, s[0]), strings.IndexByte(figures, s[1])
		b, e := byt.Bytes(s)
		if high < 0 || low < 0 {
			if e != api.ErrForm || len(b) != 0 {
				t.Fatalf("%q: %x, %d; want ErrForm", s, b, e)
			}
		} else if e != api.OK || !bytes.Equal(b, []byte{byte(high<<4 | low)}) {
			t.Fatalf("%q: %x, %d", s, b, e)
		}
	}
}

// P1.4: what is no text, by its count of signs or by one of them, wherever that stands.
func TestBytesRefuses(t *testing.T) {
	for _, s := range []string{"0", "f", "000", "00x", "00ff0", "0x00", " 00", "00 ", "0 0", "00\n", "AB", "aB", "Ab", "0G", "g0", "-1", "+1", "00-1", "0_0",
		"\x00\x00", "é0", "0é", "é", "éé", "\xff\xff", "a\xc3", "\xa90", "00\x80\x80",
		// Signs of more bytes, of which some end with the bits of a figure, or are figures elsewhere.
		"\u0130", "\u0130\u0130", "\u0230\u0161", "\u0661\u0662", "\uff10\uff11", "\U00010030", "\U0001d7ce\U0001d7cf", "0\u01300", "\ufffd0", "0\uff100"} {
		if b, e := byt.Bytes(s); e != api.ErrForm || len(b) != 0 {
			t.Errorf("%q: %x, %d; want ErrForm", s, b, e)
		}
	}
	whole := strings.Repeat("5a", 20)
	for i := range whole {
		for _, sign := range []string{"G", "A", "/", ":", "`", " ", "\x00", "\xff", "é"} {
			s := whole[:i] + sign + whole[i+1:]
			if b, e := byt.Bytes(s); e != api.ErrForm || len(b) != 0 {
				t.Errorf("%q: %x, %d; want ErrForm", s, b, e)
			}
		}
		s := whole[:i] + whole[i+1:]
		if b, e := byt.Bytes(s); e != api.ErrForm || len(b) != 0 {
			t.Errorf("%q: %x, %d; want ErrForm", s, b, e)
		}
	}
}
