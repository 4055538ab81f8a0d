package schema_test

import (
	"bytes"
	"reflect"
	"slices"
	"sync"
	"testing"

	"pyx/api"
	"pyx/group"
	"pyx/schema"
)

// The section Examples.
func TestExamples(t *testing.T) {
	g, e := group.Create([]byte("example"), 1, seedAt(1), seedAt(2))
	if e != api.OK || schema.Least(g) != 1 {
		t.Errorf("%d, least %d", e, schema.Least(g))
	}
}

// P15.3: what is encoded is decoded, by the same version, and is encoded so again; no two versions have the same bytes; a greater one can tell what a lesser one can.
func TestThereAndBack(t *testing.T) {
	for _, x := range samples(t) {
		seen := map[string]int{}
		could := false
		for _, v := range versions {
			can := schema.Can(v, x.g)
			if could && !can {
				t.Errorf("%s: version %d can't tell what %d can", x.what, v, v-1)
			}
			could = can
			b, e := schema.Encode(v, x.g)
			if can != (e == api.OK) {
				t.Errorf("%s, version %d: %d", x.what, v, e)
			}
			if !can {
				continue
			}
			seen[string(b)]++
			g, e := schema.Decode(v, b)
			if e != api.OK || !group.Same(g, x.g) || told(g) != told(x.g) {
				t.Errorf("%s, version %d: %d, %s", x.what, v, e, told(g))
			}
			if again, e := schema.Encode(v, g); e != api.OK || !bytes.Equal(again, b) {
				t.Errorf("%s, version %d: %d, %x; it was %x", x.what, v, e, again, b)
			}
		}
		if !could || len(seen) != 5-x.least {
			t.Errorf("%s: %d rows of bytes", x.what, len(seen))
		}
	}
}

// P15.3: groups that aren't the same have other bytes, in each version.
func TestOthersHaveOtherBytes(t *testing.T) {
	all := samples(t)
	for _, v := range versions {
		seen := map[string]api.Group{}
		for _, x := range all {
			if v < x.least {
				continue
			}
			b, _ := schema.Encode(v, x.g)
			if other, is := seen[string(b)]; is && !group.Same(other, x.g) {
				t.Errorf("%s, version %d: the bytes of another one", x.what, v)
			}
			seen[string(b)] = x.g
		}
	}
}

// P15.2, P15.3: drawn changes of groups' bytes, several at once: refused, or those of another group, as the second way has it.
func TestDrawnChanges(t *testing.T) {
	d := draws(15)
	all := small(t)
	for _, x := range fours() {
		all = append(all, x)
	}
	taken := 0
	for range 4000 {
		x := all[d.below(len(all))]
		b := bytesOf(max(x.least, 1+d.below(4)), x.g)
		for range 1 + d.below(3) {
			at := d.below(len(b) + 1)
			switch d.below(4) {
			case 0:
				b = append(b[:at:at], append(d.row(d.below(4)), b[at:]...)...)
			case 1:
				b = append(b[:at:at], b[min(at+d.below(40), len(b)):]...)
			case 2:
				b = append(b[:at:at], b[d.below(len(b)+1):]...)
			default:
				if at < len(b) {
					b[at] = byte(d.below(256))
				}
			}
			if len(b) == 0 {
				break
			}
		}
		if isAsModel(t, "drawn", 1+d.below(4), b) {
			taken++
		}
	}
	if taken < 50 {
		t.Errorf("%d taken", taken)
	}
}

// P15.3: groups that are encoded and decoded between any two steps do what is done later as those that stayed: they commit, process, write and open alike.
func TestGoOn(t *testing.T) {
	stayed, moved := busy(t, manyPsk(4, 9, 20)), busy(t, manyPsk(4, 9, 20))
	d := draws(3)
	next := 30
	for range 20 {
		for name, g := range moved.in {
			v := schema.Least(g)
			v += d.below(5 - v)
			b, e := schema.Encode(v, g)
			if e != api.OK {
				t.Fatal(e)
			}
			if moved.in[name], e = schema.Decode(v, b); e != api.OK {
				t.Fatal(e)
			}
		}
		var names []int
		for name := range stayed.in {
			names = append(names, name)
		}
		slices.Sort(names)
		by, many := names[d.below(len(names))], 1+d.below(40)
		l := []api.Prop{take(6 + d.below(4))}
		if d.below(2) == 0 {
			l = append(l, add(next))
			next++
		}
		commits := d.below(2) == 0
		for _, c := range []*crowd{stayed, moved} {
			if commits {
				c.step(by, l...)
			} else {
				c.pass(by, many)
			}
		}
		if told(stayed.in) != told(moved.in) {
			t.Fatalf("%s\n%s", told(stayed.in), told(moved.in))
		}
	}
}

// piece is where a list's memory stands, to its end.
type piece struct{ from, to uintptr }

// memory is all memory of something: of each list in it that has room for anything.
func memory(v reflect.Value) []piece {
	var out []piece
	switch v.Kind() {
	case reflect.Slice:
		if v.Cap() > 0 {
			out = append(out, piece{v.Pointer(), v.Pointer() + uintptr(v.Cap())*v.Type().Elem().Size()})
		}
		for k := range v.Len() {
			out = append(out, memory(v.Index(k))...)
		}
	case reflect.Struct:
		for k := range v.NumField() {
			out = append(out, memory(v.Field(k))...)
		}
	}
	return out
}

// share: do lists of these share memory, with one another, or two of one?
func share(l ...any) bool {
	var all []piece
	for _, x := range l {
		all = append(all, memory(reflect.ValueOf(x))...)
	}
	slices.SortFunc(all, func(a, b piece) int { return int(a.from) - int(b.from) })
	for k := 1; k < len(all); k++ {
		if all[k].from < all[k-1].to {
			return true
		}
	}
	return false
}

// toldAll is something as a text that tells all of it, and all that lies behind its lists.
func toldAll(v reflect.Value) string {
	switch v.Kind() {
	case reflect.Slice:
		text := "["
		for k := range v.Cap() {
			text += toldAll(v.Slice(0, v.Cap()).Index(k)) + " "
		}
		return text + "]"
	case reflect.Struct:
		text := "{"
		for k := range v.NumField() {
			text += toldAll(v.Field(k)) + " "
		}
		return text + "}"
	}
	return told(v.Interface())
}

// R3: what is handed in stays as it was, with what lies behind it in the same memory; no answer shares memory with it, nor do two lists of an answer, nor two answers.
func TestNothingIsShared(t *testing.T) {
	for _, x := range append(fours(), small(t)[2]) {
		for v := range 6 {
			g := lent(x.g)
			was := toldAll(reflect.ValueOf(g))
			schema.Can(v, g)
			schema.Least(g)
			one, _ := schema.Encode(v, g)
			two, _ := schema.Encode(v, g)
			if toldAll(reflect.ValueOf(g)) != was {
				t.Errorf("%s, version %d: written into what was handed in, or behind it", x.what, v)
			}
			if share(g, one, two) || !bytes.Equal(one, two) {
				t.Errorf("%s, version %d: memory is shared", x.what, v)
			}
			for _, b := range [][]byte{bytesOf(x.least, x.g), bytesOf(4, x.g), bytesOf(x.least, x.g)[:200]} {
				b = lent(b)
				was := toldAll(reflect.ValueOf(b))
				first, _ := schema.Decode(v, b)
				second, _ := schema.Decode(v, b)
				if toldAll(reflect.ValueOf(b)) != was {
					t.Errorf("%s, version %d: written into bytes, or behind them", x.what, v)
				}
				if share(b, first, second) || told(first) != told(second) {
					t.Errorf("%s, version %d: memory is shared with bytes", x.what, v)
				}
			}
		}
	}
}

// R3: what lies behind bytes in the same memory isn't among them.
func TestBehindTheBytes(t *testing.T) {
	for _, x := range fours() {
		b := bytesOf(4, x.g)
		isRefused(t, x.what+", cut", 4, b[:len(b)-1], api.ErrForm)
		isDecoded(t, x.what, 4, append(bytes.Clone(b), counted(50, 1)...)[:len(b)], x.g)
	}
}

// R4: what is asked at the same time is answered as what is asked alone.
func TestAtTheSameTime(t *testing.T) {
	all := fours()
	var asking sync.WaitGroup
	for range 8 {
		asking.Go(func() {
			for _, x := range all {
				for v := x.least; v <= 4; v++ {
					b, e := schema.Encode(v, x.g)
					g, f := schema.Decode(v, b)
					if e != api.OK || f != api.OK || !bytes.Equal(b, bytesOf(v, x.g)) || told(g) != told(x.g) || schema.Least(x.g) != x.least || !schema.Can(v, x.g) {
						t.Errorf("%s, version %d: %d, %d", x.what, v, e, f)
					}
				}
			}
		})
	}
	asking.Wait()
}

// answers makes all calls of a group that may not be right, of which the chapter says nothing, and asks that each ends without a panic, that beside an error there is nothing, and that bytes that come of it are decoded as the second way does it.
func answers(t *testing.T, g api.Group) {
	t.Helper()
	was := told(g)
	schema.Least(g)
	for _, v := range []int{least, -1, 0, 1, 2, 3, 4, 5, greatest} {
		can := schema.Can(v, g)
		b, e := schema.Encode(v, g)
		if can && (v < 1 || v > 4) || !can && e == api.OK || e != api.OK && (b != nil || e != api.ErrVersion && e != api.ErrRep) {
			t.Errorf("version %d of %s: %t, %d, %x", v, was, can, e, b)
		}
		if e == api.OK && isAsModel(t, "of a group that needn't be right", v, b) && group.Right(g) {
			isDecoded(t, "of a right group", v, b, g)
		}
	}
	if told(g) != was {
		t.Errorf("written into: %s", was)
	}
}

// R1: no group, however wrong, makes a call panic.
func TestAnswersAll(t *testing.T) {
	answers(t, api.Group{})
	for _, x := range wrongs() {
		g := ofFour(true, true, 9)
		x.do(&g)
		answers(t, g)
	}
	g := ofFour(true, true, 9)
	for _, n := range []int{least, -1 << 48, -1 << 32, -65537, -256, -1, 0, 1, 2, 3, 4, 6, 7, 255, 256, 257, 65535, 65536, 65537, 1<<32 - 1, 1 << 32, 1<<32 + 1, lastEpoch, 1<<48 - 1, 1 << 48, 1<<48 + 1, 1 << 62, greatest - 1, greatest} {
		for _, at := range []*int{&g.Epoch, &g.Me, &g.Tree[0].Kind, &g.Tree[0].Name, &g.Tree[1].Un[0], &g.Tree[5].Kind, &g.Own[0].Node, &g.Chain[0].Next, &g.Chain[1].Spare[0].At, &g.Psk[0].Id, &g.Psk[2].Id} {
			was := *at
			*at = n
			answers(t, g)
			for _, e := range []int{9, 1 << 32} {
				h := g
				h.Epoch, h.Psk = e, nil
				answers(t, h)
			}
			*at = was
		}
	}
}

// R1: lists that are longer than their bytes tell.
func TestAnswersLong(t *testing.T) {
	for _, n := range []int{255, 256, 65535, 65536, 65537} {
		for _, do := range []func(g *api.Group){
			func(g *api.Group) { g.Tree = make([]api.Node, n) },
			func(g *api.Group) { g.Tree[5].Un = make([]int, n) },
			func(g *api.Group) { g.Own = make([]api.Seed, n) },
			func(g *api.Group) { g.Chain = make([]api.Chain, n) },
			func(g *api.Group) { g.Chain[0].Spare = make([]api.Lock, n) },
			func(g *api.Group) { g.Psk = make([]api.Psk, n) },
			func(g *api.Group) { g.Id = make([]byte, n) },
			func(g *api.Group) { g.Log = make([]byte, n) },
		} {
			g := ofFour(true, true, 9)
			do(&g)
			b, e := schema.Encode(4, g)
			if e == api.OK && !bytes.Equal(b, bytesOf(4, g)) || e != api.OK && (e != api.ErrRep || b != nil) {
				t.Errorf("%d: %d, %d bytes", n, e, len(b))
			}
			if len(b) > mostBytes {
				isRefused(t, "a long list", 4, b, api.ErrBig)
			} else if e == api.OK {
				isAsModel(t, "a long list", 4, b)
			}
		}
	}
}

// P15.2, P15.3: drawn bytes are decoded as the second way does it.
func FuzzDecode(f *testing.F) {
	for _, x := range fours() {
		for v := x.least; v <= 4; v++ {
			f.Add(v, bytesOf(v, x.g))
		}
	}
	f.Add(0, []byte{})
	f.Add(1, bytes.Repeat([]byte{255}, 100))
	f.Fuzz(func(t *testing.T, v int, b []byte) {
		switch {
		case v < 1 || v > 4:
			isRefused(t, "drawn", v, b, api.ErrVersion)
		case len(b) > mostBytes:
			isRefused(t, "drawn", v, b, api.ErrBig)
		default:
			isAsModel(t, "drawn", v, b)
		}
	})
}
