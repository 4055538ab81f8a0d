package ratch_test

import (
	"bytes"
	"slices"
	"testing"

	"pyx/api"
	"pyx/ratch"
)

// P13.2: locks, and secrets behind them, that are reckoned elsewhere; the secret at the first place is counted(32, 1).
func TestTakeToldElsewhere(t *testing.T) {
	for _, x := range []struct {
		next, at           int
		key, nonce, secret string
	}{
		{0, 0, "4ac0296445695a264f605aa49ba9ad2e23e47908888a98f259e1a32e9472a0c8", "8021a1b30d414205ec44099b", "9dd3ab4b18c3cb68cefe1c18a24e512453bd10f64781d59322d68df4a53989b1"},
		{0, 1, "7d06f611b7a36ba413cee92242b5e9681590cbe28d05c49ede3a8d3f8c31adfd", "df70bb30627df5bc8ea6ff5c", "8e58ed28c9f80d1034777cc6ba8df17254735dbc804c80ecefd62f8d8a973d36"},
		{0, 2, "848b59001bb6488dc0b90289fec6986b139425827c3984c0b1e3a853aa83eb8c", "7aa0763cf45990c052afe464", "c8ef6d31ed3d50a072c4fcf084b60769c5a5f0791b6585269ac4f161a953c26e"},
		{0, 99, "3a9882fe775be6e43e3136df9de0c2f7759264086ca0c2b29baf02ecf5468afc", "769d920aa64dc9b7825b0541", "2c1e18ea7018f9e646961d0dcd8a91718b9e18e9cfaca0e2ab65c2eb5ec9d8e7"},
		{0, 100, "0d0976e5bf799d90e350f5e49398314463cf89188566eaf38f1463b87422440f", "3740576fd0694a9caa02f191", "a9c1154751057e7f6982a99b6cfcd22a6316f773ebe275ad1221f24f31c002a5"},
		{255, 255, "5062d9b95448c1c2c6c5f05cb4312dae7235f6bf09fa4e0de8bfcaf3d21766c6", "e2e9ce4c88c26a9d0fa9d5d2", "9dda9c84f967445f0f8d41150b71f161898d644d5eb6137f9d000d01c96a3912"},
		{255, 256, "0fd42347bb3b471f17c05b0d32a017dcb7a22b217a96215ffe209822bdfe52ad", "e77557f75e2e095b222753da", "8c90a7b726a9d9153ca9bf6c68831118b139fa59addfeeb313be43d1741e28f1"},
		{65535, 65536, "d4eb418221f3384ea18cbda0e197c979931b3d642bb0637d26f2d76bb6ffe22d", "789cea282932d0d702fbb822", "5103825c5766b6ec9c615c4b9a44e3fa8c641d4008a556ebbbae18c2ce67f1f9"},
		{1<<31 - 1, 1 << 31, "f564b14b21ebfdc157d2f4dc84e91a550f27d433e93900b1f6d5530f2c4f8028", "a0fda9d57a769c08a5056969", "ca8067ff9c0ad17fe90613fcf6b74076fa7b7731eb664485c28bcf98577ee425"},
		{1<<32 - 4, 1<<32 - 3, "46badd30e869b44ce8012a14e38c713fded1d2f8f65cc47b33fb51fd4162c591", "22f0340d21420a235622c2b9", "2b128832964959ddba4f0aa675024798a1aca61eb032697dc2508f7dc2dcf81c"},
	} {
		c, lock, e := ratch.Take(api.Chain{Next: x.next, Secret: counted(32, 1)}, x.at)
		if e != api.OK || lock.At != x.at || !bytes.Equal(lock.Key, unhex(t, x.key)) || !bytes.Equal(lock.Nonce, unhex(t, x.nonce)) {
			t.Errorf("%d from %d: %d, lock %s; want %s, %s", x.at, x.next, e, toldLock(lock), x.key, x.nonce)
		}
		if c.Next != x.at+1 || !bytes.Equal(c.Secret, unhex(t, x.secret)) || len(c.Spare) != min(x.at-x.next, 32) {
			t.Errorf("%d from %d: %s; want %d, %s", x.at, x.next, told(c), x.at+1, x.secret)
		}
	}
}

// P13.2: from the beginning of a leaf's chain on, one by one: the next place itself, none passed over.
func TestTakeOneByOne(t *testing.T) {
	for _, send := range sends() {
		l := lineFrom(0, leafOf(send, 8, 5))
		c, _ := ratch.Start(send, 8, 5)
		for at := range 300 {
			var lock api.Lock
			var e api.Errno
			c, lock, e = ratch.Take(c, at)
			if e != api.OK || toldLock(lock) != toldLock(l.lock(at)) || told(c) != told(l.chain(held{next: at + 1})) {
				t.Errorf("%d: %d, lock %s, %s; want lock %s", at, e, toldLock(lock), told(c), toldLock(l.lock(at)))
			}
		}
	}
}

// P13.2: the next place itself: the spares stay.
func TestTakeNext(t *testing.T) {
	l := lineFrom(0, counted(32, 7))
	for _, h := range []held{{next: 0}, {next: 1}, {next: 1, spares: []int{0}}, {next: 9, spares: []int{3}}, {next: 9, spares: []int{0, 4, 8}}, {next: 31, spares: span(0, 31)}, {next: 40, spares: span(8, 40)}, {next: 300, spares: span(10, 42)}} {
		isTaken(t, l, h, h.next, held{next: h.next + 1, spares: h.spares})
	}
}

// P13.2: each place up to 100 behind the next one, of a chain without spares: what is passed over are spares, the last 32 of them.
func TestTakeAhead(t *testing.T) {
	for _, next := range []int{0, 1, 255, 1 << 16, 1<<31 - 50, 1<<32 - 200} {
		l := lineFrom(next, counted(32, next))
		for over := range 101 {
			isTaken(t, l, held{next: next}, next+over, held{next: next + over + 1, spares: span(next+max(0, over-32), next+over)})
		}
	}
}

// P13.2: so it is of a chain that has spares: those stand ahead, and the first ones are dropped first.
func TestTakeAheadOfSpares(t *testing.T) {
	l := lineFrom(0, counted(32, 9))
	for _, x := range []struct {
		h    held
		at   int
		want []int
	}{
		{held{3, []int{0, 2}}, 4, []int{0, 2, 3}},
		{held{33, []int{5}}, 64, append([]int{5}, span(33, 64)...)},
		{held{33, []int{5}}, 65, span(33, 65)},
		{held{33, []int{5}}, 66, span(34, 66)},
		{held{31, span(0, 31)}, 32, span(0, 32)},
		{held{32, span(0, 32)}, 33, span(1, 33)},
		{held{32, span(0, 32)}, 63, append([]int{31}, span(32, 63)...)},
		{held{32, span(0, 32)}, 64, span(32, 64)},
		{held{32, span(0, 32)}, 65, span(33, 65)},
		{held{32, span(0, 32)}, 132, span(100, 132)},
		{held{90, []int{1, 40, 41, 89}}, 92, []int{1, 40, 41, 89, 90, 91}},
		{held{90, []int{1, 40, 41, 89}}, 118, append([]int{1, 40, 41, 89}, span(90, 118)...)},
		{held{90, []int{1, 40, 41, 89}}, 119, append([]int{40, 41, 89}, span(90, 119)...)},
		{held{90, []int{1, 40, 41, 89}}, 121, append([]int{89}, span(90, 121)...)},
		{held{90, []int{1, 40, 41, 89}}, 190, span(158, 190)},
	} {
		isTaken(t, l, x.h, x.at, held{next: x.at + 1, spares: x.want})
	}
}

// P13.2: more than 100 behind the next one, whatever spares there are.
func TestTakeTooFar(t *testing.T) {
	for _, next := range []int{0, 1, 40, 1 << 16, 1<<32 - 103, 1<<32 - 104, 1<<32 - 500} {
		l := lineFrom(next-min(next, 40), counted(32, 3))
		for _, h := range []held{{next: next}, {next: next, spares: span(next-min(next, 32), next)}} {
			for _, at := range []int{next + 101, next + 102, next + 1000, last, last - 1, full} {
				if at > next+100 && at <= full {
					isUntaken(t, l, h, at, api.ErrBig)
				}
			}
			want, _ := h.take(next + 100)
			isTaken(t, l, h, next+100, want)
		}
	}
}

// P13.2: a spare: the first one, the last one, each one between; the others stay, in order.
func TestTakeSpare(t *testing.T) {
	l := lineFrom(0, counted(32, 11))
	for many := 1; many <= 32; many++ {
		h := held{next: 50, spares: span(10, 10+many)}
		for k, at := range h.spares {
			isTaken(t, l, h, at, held{next: 50, spares: slices.Concat(h.spares[:k], h.spares[k+1:])})
		}
	}
	isTaken(t, l, held{next: 1, spares: []int{0}}, 0, held{next: 1})
	isTaken(t, l, held{next: 99, spares: []int{0, 50, 98}}, 0, held{next: 99, spares: []int{50, 98}})
	isTaken(t, l, held{next: 99, spares: []int{0, 50, 98}}, 50, held{next: 99, spares: []int{0, 98}})
	isTaken(t, l, held{next: 99, spares: []int{0, 50, 98}}, 98, held{next: 99, spares: []int{0, 50}})
}

// P13.2: what a spare tells is taken as it is, and isn't reckoned anew.
func TestTakeSpareAsItIs(t *testing.T) {
	c := api.Chain{Next: 9, Secret: counted(32, 1), Spare: []api.Lock{{At: 3, Key: counted(32, 50), Nonce: counted(12, 90)}, {At: 8, Key: counted(32, 60), Nonce: counted(12, 91)}}}
	got, lock, e := ratch.Take(c, 8)
	if e != api.OK || toldLock(lock) != toldLock(c.Spare[1]) || told(got) != told(api.Chain{Next: 9, Secret: c.Secret, Spare: c.Spare[:1]}) {
		t.Errorf("%d, lock %s, %s", e, toldLock(lock), told(got))
	}
	got, lock, e = ratch.Take(c, 10)
	if e != api.OK || lock.At != 10 || len(got.Spare) != 3 || toldLock(got.Spare[0]) != toldLock(c.Spare[0]) || toldLock(got.Spare[1]) != toldLock(c.Spare[1]) || got.Spare[2].At != 9 {
		t.Errorf("%d, lock %s, %s", e, toldLock(lock), told(got))
	}
}

// P13.2: a place below the next one that is no spare: beside spares, and without any.
func TestTakeStale(t *testing.T) {
	l := lineFrom(0, counted(32, 13))
	h := held{next: 60, spares: []int{20, 30, 31, 40}}
	for at := range 60 {
		if slices.Contains(h.spares, at) {
			continue
		}
		isUntaken(t, l, h, at, api.ErrStale)
		isUntaken(t, l, held{next: 60}, at, api.ErrStale)
	}
	isUntaken(t, l, held{next: 1}, 0, api.ErrStale)
	// What is far below is as stale as what is near.
	for _, at := range []int{0, 1, 1 << 31, last - 101, last - 1, last} {
		isUntaken(t, lineFrom(full, counted(32, 1)), held{next: full}, at, api.ErrStale)
	}
}

// P13.2: a place that was taken, one by one, as a spare, or with others passed over, and one that is a spare no more: each is refused, whenever it is asked for again.
func TestTakeAgain(t *testing.T) {
	l := lineFrom(0, counted(32, 15))
	h := held{}
	taken := map[int]int{}
	for _, at := range []int{0, 1, 5, 3, 2, 8, 4, 6, 7, 40, 9, 140, 139, 108, 120} {
		want, _ := h.take(at)
		isTaken(t, l, h, at, want)
		h = want
		taken[at]++
		for again := range taken {
			isUntaken(t, l, h, again, api.ErrStale)
		}
	}
	// 10 to 39 were spares, and 41 to 106 never were.
	for at := 10; at < 108; at++ {
		isUntaken(t, l, h, at, api.ErrStale)
	}
}

// P13.2: 32 spares and a 33rd: the first one is dropped; and a place that was taken of them makes room for one.
func TestTakeDrops(t *testing.T) {
	l := lineFrom(0, counted(32, 17))
	h := held{next: 33, spares: span(0, 32)}
	more := held{next: 35, spares: append(span(1, 32), 33)}
	isTaken(t, l, h, 34, more)
	isUntaken(t, l, more, 0, api.ErrStale)
	isTaken(t, l, more, 1, held{next: 35, spares: append(span(2, 32), 33)})
	less := held{next: 33, spares: append(span(0, 4), span(5, 32)...)}
	isTaken(t, l, h, 4, less)
	isTaken(t, l, less, 34, held{next: 35, spares: slices.Concat(span(0, 4), span(5, 32), []int{33})})
	isTaken(t, l, held{next: 35, spares: slices.Concat(span(0, 4), span(5, 32), []int{33})}, 0, held{next: 35, spares: slices.Concat(span(1, 4), span(5, 32), []int{33})})
}

// P13.2: the last place that is taken, and the one behind it; near there what is passed over, and a chain of which no more is taken but its spares.
func TestTakeLast(t *testing.T) {
	l := lineFrom(last-200, counted(32, 19))
	for over := range 101 {
		h := held{next: last - over}
		isTaken(t, l, h, last, held{next: full, spares: span(last-min(over, 32), last)})
		isUntaken(t, l, h, full, api.ErrBig)
		isUntaken(t, l, h, full+1, api.ErrArg)
	}
	isUntaken(t, l, held{next: last - 101}, last, api.ErrBig)
	isUntaken(t, l, held{next: last - 101}, full, api.ErrBig)
	end := held{next: full, spares: []int{last - 70, last - 1, last}}
	isUntaken(t, l, end, full, api.ErrBig)
	isUntaken(t, l, held{next: full}, full, api.ErrBig)
	isUntaken(t, l, held{next: full}, last, api.ErrStale)
	isUntaken(t, l, end, last-2, api.ErrStale)
	isTaken(t, l, end, last-70, held{next: full, spares: []int{last - 1, last}})
	isTaken(t, l, end, last-1, held{next: full, spares: []int{last - 70, last}})
	isTaken(t, l, end, last, held{next: full, spares: []int{last - 70, last - 1}})
}

// P13.2: no place at all, whatever else is wrong with it: below the next one, too far behind it, or such that its lowest 32 bits are those of one that is there.
func TestTakeNoPlace(t *testing.T) {
	for _, next := range []int{0, 1, 40, 1 << 31, 1<<32 - 100, last, full} {
		l := lineFrom(next-min(next, 40), counted(32, 21))
		for _, h := range []held{{next: next}, {next: next, spares: span(next-min(next, 32), next)}} {
			for _, at := range []int{-1, -2, -100, -101, -1 << 31, -1 << 32, next - 1<<32, next - 1 - 1<<32, 1<<32 - 1, 1 << 32, 1<<32 + 1, 1<<32 + next, 1<<32 + next - 1, 1 << 40, 1<<63 - 1 - 100, greatest, least, least + 100} {
				isUntaken(t, l, h, at, api.ErrArg)
			}
		}
	}
}
