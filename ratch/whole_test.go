package ratch_test

import (
	"bytes"
	"slices"
	"sync"
	"testing"

	"pyx/api"
	"pyx/ratch"
)

// The section Examples.
func TestExamples(t *testing.T) {
	c, _ := ratch.Start(counted(32, 1), 2, 0)
	c, lock, e := ratch.Take(c, 2)
	if e != api.OK || lock.At != 2 || len(c.Spare) != 2 || c.Spare[0].At != 0 || c.Spare[1].At != 1 {
		t.Errorf("%d, lock %s, %s", e, toldLock(lock), told(c))
	}
}

// P13.3: places taken in every order that there is of six: each has the lock that it has one by one, and in the end the chain is the same.
func TestEveryOrder(t *testing.T) {
	const many = 6
	l := lineFrom(0, counted(32, 1))
	orders := 0
	var goOn func(c api.Chain, order []int)
	goOn = func(c api.Chain, order []int) {
		if len(order) == many {
			orders++
			if told(c) != told(l.chain(held{next: many})) {
				t.Errorf("%v: %s", order, told(c))
			}
			return
		}
		for at := range many {
			next, lock, e := ratch.Take(c, at)
			if slices.Contains(order, at) {
				if e != api.ErrStale {
					t.Errorf("%v, %d again: %d", order, at, e)
				}
				continue
			}
			if e != api.OK || toldLock(lock) != toldLock(l.lock(at)) || !ratch.Right(next) {
				t.Errorf("%v, then %d: %d, lock %s", order, at, e, toldLock(lock))
			}
			goOn(next, append(slices.Clone(order), at))
		}
	}
	goOn(l.chain(held{}), nil)
	if orders != 720 {
		t.Errorf("%d orders; want 720", orders)
	}
}

// P13.3: drawn orders of up to 33 places, from one on: none is dropped, as 32 are kept; no lock comes twice.
func TestDrawnOrders(t *testing.T) {
	d := draws(1)
	for range 60 {
		from := []int{0, d.below(1 << 30), 1<<32 - 2 - 33}[d.below(3)]
		many := 1 + d.below(33)
		l := lineFrom(from, d.row(32))
		c := l.chain(held{next: from})
		seen := map[string]int{}
		for _, at := range d.shuffled(span(from, from+many)) {
			var lock api.Lock
			var e api.Errno
			c, lock, e = ratch.Take(c, at)
			if e != api.OK || toldLock(lock) != toldLock(l.lock(at)) || !ratch.Right(c) {
				t.Errorf("%d: %d, lock %s; want %s", at, e, toldLock(lock), toldLock(l.lock(at)))
			}
			seen[string(lock.Key)]++
			seen[string(lock.Nonce)]++
		}
		if told(c) != told(l.chain(held{next: from + many})) || len(seen) != 2*many {
			t.Errorf("%d places from %d: %s, %d rows", many, from, told(c), len(seen))
		}
	}
}

// P13.3: from the last of 33 places down to the first: the greatest number of spares that is never too great.
func TestBackwards(t *testing.T) {
	l := lineFrom(0, counted(32, 8))
	h := held{}
	for at := 32; at >= 0; at-- {
		want := held{next: 33, spares: span(0, at)}
		isTaken(t, l, h, at, want)
		h = want
	}
}

// P13.3: through drawn histories, in which places far ahead, near, below and of spares are asked for: all is as told by numbers, no place is taken twice, and each chain stays what it was when it came.
func TestHistories(t *testing.T) {
	for seed := range 12 {
		d := draws(seed)
		from := []int{0, 1<<16 - 300, 1<<32 - 900}[seed%3]
		l := lineFrom(from, d.row(32))
		h := held{next: from}
		taken := map[int]int{}
		chains := []api.Chain{l.chain(h)}
		texts := []string{told(chains[0])}
		for range 250 {
			at := h.next + []int{d.below(3), d.below(12), d.below(110) - 2, d.below(12) - 12, d.below(60) - 60}[d.below(5)]
			if many := len(h.spares); many > 0 && d.below(3) == 0 {
				at = h.spares[d.below(many)]
			}
			want, e := h.take(at)
			c, lock, got := ratch.Take(chains[len(chains)-1], at)
			if got != e || told(c) != told(l.chain(want)) || !ratch.Right(c) {
				t.Fatalf("%d of %v: %d, %s; want %d, %v", at, h, got, told(c), e, want)
			}
			if e == api.OK {
				taken[at]++
				if taken[at] != 1 || toldLock(lock) != toldLock(l.lock(at)) {
					t.Fatalf("%d of %v: taken %d times, lock %s", at, h, taken[at], toldLock(lock))
				}
			} else if lock.At != 0 || lock.Key != nil || lock.Nonce != nil {
				t.Fatalf("%d of %v: %d, and lock %s", at, h, got, toldLock(lock))
			}
			h = want
			chains, texts = append(chains, c), append(texts, told(c))
		}
		for k, c := range chains {
			if told(c) != texts[k] {
				t.Errorf("history %d: chain %d is another one now: %s; it was %s", seed, k, told(c), texts[k])
			}
		}
	}
}

// R3: a chain that came of Take stays as it is, whatever is taken of the one ahead of it later; and so does each of those.
func TestManyOfOne(t *testing.T) {
	l := lineFrom(0, counted(32, 30))
	h := held{next: 50, spares: []int{3, 4, 10, 20, 30, 49}}
	first := l.chain(h)
	// Room behind the end, that whoever takes more could write into.
	first.Spare = append(make([]api.Lock, 0, 200), first.Spare...)
	places := []int{3, 4, 10, 20, 30, 49, 50, 51, 53, 75, 76, 77, 81, 82, 120, 150}
	var came []api.Chain
	for _, at := range append(places, places...) {
		c, _, e := ratch.Take(first, at)
		if e != api.OK {
			t.Errorf("%d: %d", at, e)
		}
		came = append(came, c)
	}
	for k, at := range append(places, places...) {
		want, _ := h.take(at)
		if told(came[k]) != told(l.chain(want)) {
			t.Errorf("%d: %s; want %v", at, told(came[k]), want)
		}
		// And so it goes on with those: what is taken of one doesn't show in another one, though both came of the same.
		for _, next := range places {
			ratch.Take(came[k], next)
		}
	}
	for k, at := range append(places, places...) {
		want, _ := h.take(at)
		if told(came[k]) != told(l.chain(want)) {
			t.Errorf("%d: then %s; want %v", at, told(came[k]), want)
		}
	}
	if told(first) != told(l.chain(h)) {
		t.Errorf("the one ahead: %s", told(first))
	}
}

// R3: what is handed in stays as it was, with what lies behind it in the same memory, whether it is taken or refused: send, a chain's secret, its spares, and their rows.
func TestHandedInStays(t *testing.T) {
	memory := counted(300, 1)
	was := bytes.Clone(memory)
	ratch.Leaf(memory[100:132], 8, 3)
	ratch.Start(memory[100:132], 8, 3)
	ratch.Leaf(memory[100:131], 8, 3)
	if !bytes.Equal(memory, was) {
		t.Error("send: written into, ahead or behind")
	}
	for _, at := range []int{-1, 0, 3, 5, 8, 9, 49, 50, 51, 70, 82, 83, 110, 150, 151, full} {
		c := api.Chain{Next: 50, Secret: memory[100:132]}
		room := make([]api.Lock, 300)
		for k := range room {
			room[k] = spare(1000 + k)
			room[k].Key = append(make([]byte, 0, 100), room[k].Key...)
			room[k].Nonce = append(make([]byte, 0, 100), room[k].Nonce...)
		}
		for k, place := range []int{3, 8, 9, 49} {
			room[100+k].At = place
		}
		c.Spare = room[100:104]
		before := told(api.Chain{Spare: room})
		ratch.Take(c, at)
		ratch.Right(c)
		ratch.Same(c, c)
		if !bytes.Equal(memory, was) || told(api.Chain{Spare: room}) != before {
			t.Errorf("%d: written into, ahead or behind", at)
		}
		for k := range room {
			key, nonce := room[k].Key, room[k].Nonce
			if !bytes.Equal(key[:cap(key)][len(key):], make([]byte, cap(key)-len(key))) || !bytes.Equal(nonce[:cap(nonce)][len(nonce):], make([]byte, cap(nonce)-len(nonce))) {
				t.Errorf("%d: written behind the rows of lock %d", at, k)
			}
		}
	}
}

// rowsOf are all rows of bytes of a chain, and of a lock, to their memory's ends.
func rowsOf(c api.Chain, l api.Lock) [][]byte {
	out := [][]byte{c.Secret, l.Key, l.Nonce}
	for _, l := range c.Spare[:cap(c.Spare)] {
		out = append(out, l.Key, l.Nonce)
	}
	for k, row := range out {
		out[k] = row[:cap(row)]
	}
	return out
}

// R3: who writes into an answer, or behind it, changes neither what was handed in, nor another row of the answer; and who writes into what was handed in changes no answer, beside an error, too.
func TestNothingShared(t *testing.T) {
	l := lineFrom(0, counted(32, 31))
	h := held{next: 50, spares: []int{3, 4, 10, 49}}
	for _, at := range []int{-1, 3, 10, 49, 50, 60, 90, 150, 5, 151, full} {
		c := l.chain(h)
		got, lock, _ := ratch.Take(c, at)
		for k, row := range rowsOf(got, lock) {
			others := rowsOf(got, lock)
			was := slices.Clone(others)
			for i := range was {
				was[i] = bytes.Clone(was[i])
			}
			for i := range row {
				row[i] ^= 0xff
			}
			for i := range others {
				if i != k && !bytes.Equal(others[i], was[i]) {
					t.Errorf("%d: rows %d and %d of the answer share memory", at, k, i)
				}
			}
		}
		clear(got.Spare[:cap(got.Spare)])
		if told(c) != told(l.chain(h)) {
			t.Errorf("%d: who writes into the answer writes into what was handed in", at)
		}
		want, _ := h.take(at)
		again, _, _ := ratch.Take(c, at)
		for _, row := range rowsOf(c, api.Lock{}) {
			clear(row)
		}
		clear(c.Spare)
		if told(again) != told(l.chain(want)) {
			t.Errorf("%d: who writes into what was handed in writes into the answer: %s", at, told(again))
		}
	}
	send := counted(32, 1)
	secret, _ := ratch.Leaf(send, 1, 0)
	c, _ := ratch.Start(send, 1, 0)
	clear(send)
	clear(secret)
	if told(c) != told(api.Chain{Secret: leafOf(counted(32, 1), 1, 0)}) {
		t.Errorf("a chain shares its secret: %s", told(c))
	}
}

// Chains that aren't right, of which the chapter says nothing: each call ends, and none panics.
func TestWrongChains(t *testing.T) {
	wrong := someChains()
	for _, next := range []int{least, least + 1, -1 << 40, -101, -100, -99, -1, full + 1, 1 << 40, greatest - 100, greatest} {
		wrong = append(wrong, api.Chain{Next: next}, chainOf(next), chainOf(next, next-1, next, next+1, 7, 7, -1), chainOf(next, span(0, 200)...))
	}
	for _, c := range wrong {
		was := told(c)
		for _, at := range []int{least, -101, -1, 0, 1, 7, 99, 100, 101, 1 << 31, last, full, full + 1, 1 << 40, greatest} {
			got, lock, e := ratch.Take(c, at)
			if e != api.OK && (told(got) != was || lock.Key != nil || lock.Nonce != nil || lock.At != 0) {
				t.Errorf("%d of %s: %d, %s, lock %s", at, was, e, told(got), toldLock(lock))
			}
			if at < 0 || at > full {
				if e != api.ErrArg {
					t.Errorf("%d of %s: %d; want ErrArg", at, was, e)
				}
			}
		}
		if told(c) != was {
			t.Errorf("%s: written into", was)
		}
	}
}

// R4: what is asked at the same time is answered as what is asked alone.
func TestAtTheSameTime(t *testing.T) {
	l := lineFrom(0, counted(32, 40))
	h := held{next: 50, spares: []int{3, 4, 10, 49}}
	c := l.chain(h)
	c.Spare = append(make([]api.Lock, 0, 200), c.Spare...)
	places := []int{3, 49, 50, 70, 150, 5, -1}
	var texts []string
	for _, at := range places {
		want, _ := h.take(at)
		texts = append(texts, told(l.chain(want)))
	}
	var all sync.WaitGroup
	for range 16 {
		all.Go(func() {
			for k, at := range places {
				if got, _, _ := ratch.Take(c, at); told(got) != texts[k] {
					t.Errorf("%d: %s; want %s", at, told(got), texts[k])
				}
				if s, e := ratch.Leaf(c.Secret, 8, k); e != api.OK || !bytes.Equal(s, leafOf(c.Secret, 8, k)) {
					t.Errorf("leaf %d: %d, %x", k, e, s)
				}
				if !ratch.Right(c) || !ratch.Same(c, c) {
					t.Error("not right, or not the same")
				}
			}
		})
	}
	all.Wait()
}
