package group_test

import (
	"bytes"
	"testing"

	"pyx/api"
	"pyx/group"
	"pyx/ratch"
)

// sentOf is what Send is to answer.
func sentOf(g api.Group, b []byte) (api.Group, api.Msg) {
	c, lock, e := ratch.Take(g.Chain[g.Me], g.Chain[g.Me].Next)
	if e != api.OK {
		panic(e)
	}
	m := api.Msg{Epoch: g.Epoch, From: g.Me, At: g.Chain[g.Me].Next, Box: sealOf(lock.Key, lock.Nonce, append(bytes.Clone(g.Id), num(g.Epoch, 6)...), b)}
	return withChain(g, g.Me, c), m
}

// withChain is a group with another chain of a leaf.
func withChain(g api.Group, i int, c api.Chain) api.Group {
	g = cloned(g)
	g.Chain[i] = c
	return g
}

// isSent asks that something is sent, as the model has it.
func isSent(t *testing.T, g api.Group, b []byte) (api.Group, api.Msg) {
	t.Helper()
	was := told(g) + told(b)
	next, m, e := group.Send(g, b)
	want, wantMsg := sentOf(g, b)
	if e != api.OK || told(next) != told(want) || told(m) != told(wantMsg) || !group.Right(next) {
		t.Errorf("%d bytes: error %d\n%s %.100s\n%s %.100s", len(b), e, told(next), told(m), told(want), told(wantMsg))
	}
	if told(g)+told(b) != was {
		t.Error("written into")
	}
	return next, m
}

// isUnsent asks that nothing is sent, but ErrBig told.
func isUnsent(t *testing.T, g api.Group, b []byte) {
	t.Helper()
	next, m, e := group.Send(g, b)
	if e != api.ErrBig || told(next) != told(g) || told(m) != told(api.Msg{}) || m.Box != nil {
		t.Errorf("%d bytes: error %d, %s", len(b), e, told(m))
	}
}

// isOpened asks that a message tells those bytes, and that its lock is used up.
func isOpened(t *testing.T, g api.Group, m api.Msg, want []byte) api.Group {
	t.Helper()
	was := told(g) + told(m)
	c, _, _ := ratch.Take(g.Chain[m.From], m.At)
	next, b, e := group.Open(g, m)
	if e != api.OK || !bytes.Equal(b, want) || told(next) != told(withChain(g, m.From, c)) || !group.Right(next) {
		t.Errorf("error %d, %x; want %x; %s", e, b, want, told(next))
	}
	if told(g)+told(m) != was {
		t.Error("written into")
	}
	return next
}

// isUnopened asks that a message is refused with that error, and that the group is what it was.
func isUnopened(t *testing.T, g api.Group, m api.Msg, want api.Errno, what ...any) {
	t.Helper()
	was := told(g) + told(m)
	next, b, e := group.Open(g, m)
	if e != want || b != nil || told(next) != told(g) {
		t.Errorf("%v: error %d, want %d; %x", what, e, want, b)
	}
	if told(g)+told(m) != was {
		t.Errorf("%v: written into", what)
	}
}

// P14.5: messages of all lengths, by each member, one behind the other; opened by each other one.
func TestSend(t *testing.T) {
	c := busy(t)
	for _, by := range c.names() {
		for k, n := range []int{0, 1, 15, 16, 17, 300, 10000} {
			next, m := isSent(t, c.in[by], counted(n, by))
			if m.At != k || m.From != c.in[by].Me || m.Epoch != c.in[by].Epoch || len(m.Box) != n+32 {
				t.Errorf("by %d: %.100s", by, told(m))
			}
			c.in[by] = next
			for _, name := range c.names() {
				if name != by {
					c.in[name] = isOpened(t, c.in[name], m, counted(n, by))
				}
			}
		}
	}
	one, _ := group.Create(nil, 3, seedAt(1), seedAt(2))
	one, m := isSent(t, one, []byte("self"))
	isUnopened(t, one, m, api.ErrArg, "by itself")
}

// P14.5: more bytes than may be sent, and a chain without a place.
func TestSendRefuses(t *testing.T) {
	g := busy(t).in[15]
	for _, n := range []int{10001, 10002, 65536 + 5, 1 << 20} {
		isUnsent(t, g, make([]byte, n))
	}
	for next, is := range map[int]bool{0: true, 1<<32 - 4: true, 1<<32 - 3: true, 1<<32 - 2: false} {
		other := cloned(g)
		other.Chain[other.Me].Next = next
		if is {
			isSent(t, other, []byte("near the end"))
		} else {
			isUnsent(t, other, []byte("at the end"))
			isUnsent(t, other, make([]byte, 10001))
		}
	}
	// Another leaf's chain at its end counts for nothing.
	other := cloned(g)
	other.Chain[0].Next = 1<<32 - 2
	isSent(t, other, nil)
}

// P14.5: messages in any order, each once; what was passed over is kept, as far as a chain keeps it.
func TestOpenInAnyOrder(t *testing.T) {
	c := busy(t)
	by, g := c.in[12], c.in[21]
	var all []api.Msg
	for k := range 150 {
		var m api.Msg
		by, m = isSent(t, by, []byte{byte(k)})
		all = append(all, m)
	}
	isUnopened(t, g, all[101], api.ErrBig, "too far ahead")
	for _, k := range []int{3, 0, 2, 1, 4, 90, 89, 60, 58, 149, 148, 118, 117} {
		g = isOpened(t, g, all[k], []byte{byte(k)})
		isUnopened(t, g, all[k], api.ErrStale, "again", k)
	}
	for _, k := range []int{5, 57, 59, 116} {
		isUnopened(t, g, all[k], api.ErrStale, "not kept", k)
	}
}

// P14.5: each error of Open; and of two that apply the one that is named first.
func TestOpenRefuses(t *testing.T) {
	c := busy(t)
	g := c.in[21]
	by, _ := isSent(t, c.in[12], nil)
	by, m := isSent(t, by, []byte("second"))
	_, ahead := isSent(t, by, nil)
	g = isOpened(t, g, ahead, nil)
	isOpened(t, g, m, []byte("second"))
	type fault struct {
		rank int
		e    api.Errno
		do   func(m *api.Msg)
	}
	var all []fault
	for _, n := range []int{-1, g.Epoch - 1, g.Epoch + 1, 0, least, greatest, 1<<48 + g.Epoch} {
		all = append(all, fault{0, api.ErrStale, func(m *api.Msg) { m.Epoch = n }})
	}
	for _, n := range []int{-1, 1, g.Me, 8, 64, least, greatest, 1 << 62, 1<<62 + 2, 1<<63 - 2} {
		all = append(all, fault{1, api.ErrArg, func(m *api.Msg) { m.From = n }})
	}
	for _, n := range []int{-1, 1<<32 - 1, least, greatest} {
		all = append(all, fault{2, api.ErrArg, func(m *api.Msg) { m.At = n }})
	}
	for _, n := range []int{104, 1 << 20, 1<<32 - 2} {
		all = append(all, fault{2, api.ErrBig, func(m *api.Msg) { m.At = n }})
	}
	all = append(all,
		fault{2, api.ErrStale, func(m *api.Msg) { m.At = 2 }},
		fault{3, api.ErrShort, func(m *api.Msg) { m.Box = nil }},
		fault{3, api.ErrShort, func(m *api.Msg) { m.Box = m.Box[:31] }},
		fault{4, api.ErrKey, func(m *api.Msg) { m.Box = m.Box[:32] }},
		fault{4, api.ErrKey, func(m *api.Msg) { m.Box = append(m.Box, 0) }},
		fault{4, api.ErrKey, func(m *api.Msg) { m.Box[0] ^= 1 }},
		fault{4, api.ErrKey, func(m *api.Msg) { m.Box[37] ^= 128 }},
		fault{4, api.ErrKey, func(m *api.Msg) { m.At = 0 }},
		fault{4, api.ErrKey, func(m *api.Msg) { m.At = 3 }},
		fault{4, api.ErrKey, func(m *api.Msg) { m.At = 103 }})
	other := cloned(m)
	other.From = 0
	isUnopened(t, g, other, api.ErrKey, "of another leaf")
	for k, f := range all {
		x := cloned(m)
		f.do(&x)
		isUnopened(t, g, x, f.e, k)
		for n, h := range all {
			if x := cloned(m); f.rank < h.rank {
				h.do(&x)
				f.do(&x)
				isUnopened(t, g, x, f.e, k, n)
			}
		}
	}
}

// P14.5: a message belongs to its group's Id, and to its epoch; to nothing else that the group has.
func TestMessageBelongs(t *testing.T) {
	c := busy(t)
	_, m := isSent(t, c.in[12], []byte("words"))
	g := c.in[21]
	for _, id := range [][]byte{nil, []byte("bus"), []byte("busy!"), []byte("Busy")} {
		other := cloned(g)
		other.Id = id
		isUnopened(t, other, m, api.ErrKey, "another id")
	}
	other, x := cloned(g), cloned(m)
	other.Epoch, x.Epoch = g.Epoch+1, g.Epoch+1
	isUnopened(t, other, x, api.ErrKey, "another epoch")
	other = cloned(g)
	other.Log, other.Sec, other.Psk, other.Own = nil, api.Epoch{}, nil, nil
	if _, b, e := group.Open(other, m); e != api.OK || string(b) != "words" {
		t.Errorf("other parts: %d, %q", e, b)
	}
}

// P14.5: a message of another epoch isn't opened, nor one by somebody who has gone.
func TestMessageOfAnotherEpoch(t *testing.T) {
	c := busy(t)
	_, early := isSent(t, c.in[12], []byte("early"))
	_, gone := isSent(t, c.in[20], []byte("gone"))
	c.step(10, remove(20))
	_, late := isSent(t, c.in[12], []byte("late"))
	for _, name := range []int{10, 14, 21} {
		isUnopened(t, c.in[name], early, api.ErrStale)
		isUnopened(t, c.in[name], gone, api.ErrStale)
		c.in[name] = isOpened(t, c.in[name], late, []byte("late"))
	}
	gone.Epoch++
	isUnopened(t, c.in[14], gone, api.ErrArg, "of a leaf that is Blank now")
}

// P14.5: no two messages are the same, though they tell the same; what was sent ahead of a failure isn't lost.
func TestSendIsOnce(t *testing.T) {
	g := busy(t).in[16]
	seen := map[string]int{}
	for range 20 {
		next, m := isSent(t, g, make([]byte, 50))
		seen[string(m.Box[:32])]++
		seen[string(m.Box[50:])]++
		isUnsent(t, next, make([]byte, 20000))
		g = next
	}
	if len(seen) != 40 || g.Chain[g.Me].Next != 20 {
		t.Errorf("%d of 40, next %d", len(seen), g.Chain[g.Me].Next)
	}
}
