package upgrade_test

import (
	"bytes"
	"reflect"
	"slices"
	"sync"
	"testing"

	"pyx/api"
	"pyx/group"
	"pyx/schema"
	"pyx/upgrade"
)

// went is the bytes that come of others, turned from one version to the next one of a row, up or down, as it has it.
func went(t *testing.T, b []byte, way ...int) []byte {
	t.Helper()
	for k, w := range way[1:] {
		v := way[k]
		c := to
		if w < v {
			c = down
		}
		next, e := c.do(v, w, b)
		if e != api.OK {
			t.Fatalf("%s from %d to %d: %d", c.what, v, w, e)
		}
		b = next
	}
	return b
}

// ways are all rows of versions that rise from one to another one, by whatever steps, each version once or twice.
func ways(v, w int) [][]int {
	if v == w {
		return [][]int{{v}, {v, v}}
	}
	var out [][]int
	for x := v + 1; x <= w; x++ {
		for _, rest := range ways(x, w) {
			out = append(out, append([]int{v}, rest...), append([]int{v, v}, rest...))
		}
	}
	return out
}

// P16.5: in whatever steps groups go up, their bytes are the same, and those of the same group, field for field; in whatever steps they go down again, they are what they were.
func TestWhateverSteps(t *testing.T) {
	for _, x := range samples(t) {
		for v := x.least; v <= 4; v++ {
			b := bytesOf(t, v, x.g)
			for w := v; w <= 4; w++ {
				at := went(t, b, v, w)
				g, e := schema.Decode(w, at)
				if e != api.OK || !group.Same(g, x.g) || told(g) != told(x.g) {
					t.Errorf("%s, from %d to %d: another group: %d", x.what, v, w, e)
				}
				step := b
				for u := v; u < w; u++ {
					if step, e = upgrade.Up(u, step); e != api.OK {
						t.Errorf("%s, up from %d: %d", x.what, u, e)
					}
				}
				if !bytes.Equal(step, at) {
					t.Errorf("%s, from %d to %d: other bytes by single steps", x.what, v, w)
				}
				for _, way := range ways(v, w) {
					if !bytes.Equal(went(t, b, way...), at) {
						t.Errorf("%s, by %v: other bytes", x.what, way)
					}
					slices.Reverse(way)
					if !bytes.Equal(went(t, at, way...), b) {
						t.Errorf("%s, by %v: not what they were", x.what, way)
					}
				}
			}
		}
	}
}

// P16.5: up and down, drawn, among the versions that can tell a group.
func TestDrawnWays(t *testing.T) {
	d := draws(5)
	all := samples(t)
	for range 300 {
		x := all[d.below(len(all))]
		way := []int{x.least + d.below(5-x.least)}
		for range 1 + d.below(8) {
			way = append(way, x.least+d.below(5-x.least))
		}
		if b := went(t, bytesOf(t, way[0], x.g), way...); !bytes.Equal(b, bytesOf(t, way[len(way)-1], x.g)) {
			t.Errorf("%s, by %v: other bytes", x.what, way)
		}
	}
}

// P16.1 to P16.3, P16.5: drawn changes of groups' bytes, several at once, between any two versions.
func TestDrawnChanges(t *testing.T) {
	d := draws(17)
	all := append(small(t), fours()...)
	taken := 0
	for range 3000 {
		x := all[d.below(len(all))]
		v := x.least + d.below(5-x.least)
		b := bytesOf(t, v, x.g)
		for range 1 + d.below(2) {
			switch at := d.below(len(b)); d.below(6) {
			case 0:
				b = slices.Insert(b, at, byte(d.below(256)))
			case 1:
				b = slices.Delete(b, at, min(at+d.below(3), len(b)))
			default:
				b[at] = byte(d.below(256))
			}
		}
		w := 1 + d.below(4)
		c := to
		if w < v {
			c = down
		}
		if isAsModel(t, x.what+", drawn", c, v, w, b) {
			taken++
		}
	}
	if taken < 500 || taken > 2500 {
		t.Errorf("%d taken", taken)
	}
}

// moved is a group that was told as bytes in a version that can tell it, upgraded, and read again; and how many versions it went up.
func moved(t *testing.T, g api.Group, d *draws) (api.Group, int) {
	t.Helper()
	v := schema.Least(g)
	w := v + d.below(5-v)
	out, e := schema.Decode(w, went(t, bytesOf(t, v, g), v, w))
	if e != api.OK {
		t.Fatal(e)
	}
	return out, w - v
}

// something is what is done next, drawn: a commit of some kind, or messages.
func something(d *draws, names []int, psk []api.Psk, next int) func(c *crowd) {
	by, other, many := names[d.below(len(names))], names[d.below(len(names))], 1+d.below(40)
	var l []api.Prop
	switch d.below(4) {
	case 0:
		l = append(l, add(next))
	case 1:
		if other != by {
			l = append(l, remove(other))
		}
	case 2:
		return func(c *crowd) { c.pass(by, many) }
	}
	if len(psk) > 0 {
		l = append(l, api.Prop{Kind: api.PPsk, Name: psk[0].Id})
	}
	return func(c *crowd) { c.step(by, l...) }
}

// T1, P16.5: groups that are told as bytes, upgraded, and read again between any two steps do what is done later as those that stayed; also where their epochs come to 2^32.
func TestGoOn(t *testing.T) {
	d := draws(3)
	ups, leasts := map[int]int{}, map[int]int{}
	for _, psk := range [][]api.Psk{nil, manyPsk(4, 9, 20)} {
		for _, later := range []int{0, 1<<32 - 25} {
			stay, move := busy(t, psk), busy(t, psk)
			for name, g := range stay.in {
				g.Epoch += later
				stay.in[name] = g
				g = move.in[name]
				g.Epoch += later
				move.in[name] = g
			}
			for next := 30; next < 50; next++ {
				var names []int
				for name := range stay.in {
					names = append(names, name)
				}
				slices.Sort(names)
				for _, name := range names {
					leasts[schema.Least(move.in[name])]++
					g, up := moved(t, move.in[name], &d)
					move.in[name] = g
					ups[up]++
				}
				do := something(&d, names, psk, next)
				do(stay)
				do(move)
				if told(stay.in) != told(move.in) {
					t.Fatal("they don't do the same")
				}
			}
		}
	}
	if len(ups) != 4 || len(leasts) != 4 {
		t.Error(ups, leasts)
	}
}

// lent is bytes with more behind them in the same memory.
func lent(b []byte) []byte { return append(bytes.Clone(b), counted(400, 7)...)[:len(b)] }

// share: do two rows stand in the same memory, with what lies behind them?
func share(a, b []byte) bool {
	at, other := reflect.ValueOf(a).Pointer(), reflect.ValueOf(b).Pointer()
	return cap(a) > 0 && cap(b) > 0 && at < other+uintptr(cap(b)) && other < at+uintptr(cap(a))
}

// calls are all calls of which bytes come.
func calls() []call { return []call{up, to, down} }

// R3: what is handed in stays as it was, with what lies behind it in the same memory; no answer shares memory with it, nor with another answer, though they be the same bytes.
func TestNothingIsShared(t *testing.T) {
	for _, x := range append(fours(), small(t)[0]) {
		for v := x.least; v <= 4; v++ {
			for w := range 6 {
				for _, c := range calls() {
					b := lent(bytesOf(t, v, x.g))
					was := bytes.Clone(b[:cap(b)])
					one, e := c.do(v, w, b)
					two, _ := c.do(v, w, b)
					if !bytes.Equal(b[:cap(b)], was) {
						t.Errorf("%s: %s from %d to %d: written into what was handed in, or behind it", x.what, c.what, v, w)
					}
					if share(b, one) || share(b, two) || share(one, two) || !bytes.Equal(one, two) {
						t.Errorf("%s: %s from %d to %d: memory is shared", x.what, c.what, v, w)
					}
					// What was answered stays, whatever becomes of what was handed in.
					clear(b[:cap(b)])
					if !bytes.Equal(one, two) || e == api.OK && len(one) == 0 {
						t.Errorf("%s: %s from %d to %d: what was answered was changed", x.what, c.what, v, w)
					}
				}
			}
		}
	}
}

// R3: rows that are met stay as they were, with what lies behind them, and what lies behind them isn't among them.
func TestBehindTheRows(t *testing.T) {
	l, m := []int{1, 2, 3, 4}, []int{4, 2, 1, 3}
	isMet(t, l[:2], m[:2], 2)
	isMet(t, l[:1], m[:2], 0)
	isMet(t, l[:0], m, 0)
	if !slices.Equal(l, versions) || !slices.Equal(m, []int{4, 2, 1, 3}) {
		t.Error(l, m)
	}
}

// R3: what lies behind bytes in the same memory isn't among them.
func TestBehindTheBytes(t *testing.T) {
	for _, x := range fours() {
		b := bytesOf(t, 4, x.g)
		for _, c := range []call{to, down} {
			isRefused(t, x.what+", cut", c, 4, 4, b[:len(b)-1], api.ErrForm)
			isAnswered(t, x.what+", lent", c, 4, 4, lent(b), b, api.OK)
		}
	}
}

// R4: what is asked at the same time, and again, is answered as what is asked alone.
func TestAtTheSameTime(t *testing.T) {
	all := append(fours(), small(t)[0])
	var asking sync.WaitGroup
	for range 8 {
		asking.Go(func() {
			for _, x := range all {
				b, e := schema.Encode(x.least, x.g)
				top, f := upgrade.To(x.least, 4, b)
				again, h := upgrade.Down(4, x.least, top)
				if e != api.OK || f != api.OK || h != api.OK || !bytes.Equal(again, b) {
					t.Errorf("%s: %d, %d, %d", x.what, e, f, h)
				}
				if v, e := upgrade.Meet(versions[:x.least], versions); v != x.least || e != api.OK {
					t.Errorf("%d, %d", v, e)
				}
			}
		})
	}
	asking.Wait()
}

// R1: no bytes and no numbers, however wrong, make a call panic; beside an error nothing comes.
func FuzzTurn(f *testing.F) {
	for _, x := range fours() {
		for v := x.least; v <= 4; v++ {
			b, _ := schema.Encode(v, x.g)
			f.Add(v, 5-v, b)
			f.Add(v, v, b)
		}
	}
	f.Add(0, 1, []byte{})
	f.Add(4, 5, []byte{1})
	f.Add(greatest, least, bytes.Repeat([]byte{255}, 100))
	f.Fuzz(func(t *testing.T, v, w int, b []byte) {
		is := func(v int) bool { return slices.Contains(versions, v) }
		switch {
		case !is(v) || !is(w):
			isRefused(t, "drawn", to, v, w, b, api.ErrVersion)
			isRefused(t, "drawn", down, v, w, b, api.ErrVersion)
		case w < v:
			isRefused(t, "drawn", to, v, w, b, api.ErrDown)
			isAsModel(t, "drawn", down, v, w, b)
		case w > v:
			isRefused(t, "drawn", down, v, w, b, api.ErrArg)
			isAsModel(t, "drawn", to, v, w, b)
		default:
			isAsModel(t, "drawn", down, v, w, b)
			isAsModel(t, "drawn", to, v, w, b)
		}
		if is(v) && v < 4 {
			isAsModel(t, "drawn", up, v, v+1, b)
		} else {
			isRefused(t, "drawn", up, v, v+1, b, api.ErrVersion)
		}
	})
}
