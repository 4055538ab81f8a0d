package group_test

import (
	"bytes"
	"fmt"
	"reflect"
	"slices"
	"sync"
	"testing"

	"pyx/api"
	"pyx/group"
)

// The section Examples.
func TestExamples(t *testing.T) {
	first, _ := group.Create([]byte("example"), 1, seedAt(1), seedAt(2))
	first, c, w, e := group.Commit(first, []api.Prop{add(2)}, seedAt(3), seedAt(4))
	if e != api.OK || len(w) != 1 || c.Epoch != 0 {
		t.Fatal(e, len(w))
	}
	second, e := group.Join(w[0], 2, beforehand(2), nil)
	if e != api.OK || first.Epoch != 1 || second.Epoch != 1 || told(first.Sec) != told(second.Sec) {
		t.Errorf("%d:\n%s\n%s", e, told(first), told(second))
	}
}

// P14.6: drawn histories: members come, go, lay paths, take secrets in, and write; all have the same tree, log and secrets in each epoch, all groups stay right, and what is sent is opened once by each other one.
func TestHistories(t *testing.T) {
	for seed := range 6 {
		d := draws(seed)
		c := newCrowd(t, d.row(d.below(20)), 1)
		next := 2
		for range 25 {
			names := c.names()
			by := names[d.below(len(names))]
			var l []api.Prop
			for range d.below(4) {
				switch d.below(3) {
				case 0:
					name := names[d.below(len(names))]
					if name != by && !slices.ContainsFunc(l, func(p api.Prop) bool { return p.Kind == api.PRemove && p.Name == name }) && d.below(2) == 0 {
						l = append(l, remove(name))
					}
				case 1:
					l = append(l, add(next))
					next += 1 + d.below(300)
				default:
					l = append(l, take([]int{0, 4, 9, 65535}[d.below(4)]))
				}
			}
			c.step(by, l...)
			c.talk(&d)
		}
	}
}

// letter is a message, who sent it, and what it tells.
type letter struct {
	m  api.Msg
	by int
	b  []byte
}

// talk has members send some messages, which each other one opens once, in another order.
func (c *crowd) talk(d *draws) {
	c.t.Helper()
	var all []letter
	for range d.below(6) {
		by := c.names()[d.below(len(c.in))]
		b := d.row(d.below(40))
		var m api.Msg
		c.in[by], m = isSent(c.t, c.in[by], b)
		all = append(all, letter{m, by, b})
	}
	for _, name := range c.names() {
		order := slices.Clone(all)
		for i := range order {
			k := i + d.below(len(order)-i)
			order[i], order[k] = order[k], order[i]
		}
		for _, x := range order {
			if x.by != name {
				c.in[name] = isOpened(c.t, c.in[name], x.m, x.b)
			}
		}
		for _, x := range order {
			want := api.ErrStale
			if x.by == name {
				want = api.ErrArg
			}
			isUnopened(c.t, c.in[name], x.m, want)
		}
	}
}

// P14.6: a group of as many as may be: who comes last, and all others, have the same.
func TestOfSixtyFour(t *testing.T) {
	c := newCrowd(t, []byte("many"), 0)
	for from := 1; from < 64; from += 20 {
		var l []api.Prop
		for name := from; name < min(from+20, 64); name++ {
			l = append(l, add(name))
		}
		c.step(from-1, l...)
	}
	if len(c.in) != 64 || len(c.in[63].Tree) != 127 {
		t.Fatal(len(c.in))
	}
	c.step(63)
	c.step(31, remove(5), add(5))
	c.step(0, remove(63))
	if len(c.in[1].Tree) != 127 {
		t.Errorf("%d nodes", len(c.in[1].Tree))
	}
}

// P14.6: two commits of one epoch: who processed the one refuses the other one, and stays.
func TestTwoCommits(t *testing.T) {
	c := busy(t)
	one, two := commit(c.in[12], nil, seedAt(1), seedAt(2)), commit(c.in[14], []api.Prop{take(4)}, seedAt(3), seedAt(4))
	a := isProcessed(t, c.in[16], one.Com)
	b := isProcessed(t, c.in[16], two.Com)
	isUnprocessed(t, a, two.Com, api.ErrStale)
	isUnprocessed(t, b, one.Com, api.ErrStale)
	isUnprocessed(t, one.Next, two.Com, api.ErrStale)
	if told(a.Sec) == told(b.Sec) {
		t.Error("the same secrets")
	}
	// What comes behind one of them isn't told to who went the other way.
	three := commit(two.Next, nil, seedAt(5), seedAt(6))
	isUnprocessed(t, a, three.Com, api.ErrKey)
	isProcessed(t, b, three.Com)
	isUnprocessed(t, c.in[16], three.Com, api.ErrState)
}

// piece is where a list's memory stands, to its end.
type piece struct{ from, to uintptr }

// memory is all memory of something: of each list in it that has room for anything.
func memory(v reflect.Value) []piece {
	var out []piece
	switch v.Kind() {
	case reflect.Slice:
		if v.Cap() > 0 {
			out = append(out, piece{v.Pointer(), v.Pointer() + uintptr(v.Cap())*v.Type().Elem().Size()})
		}
		for k := range v.Len() {
			out = append(out, memory(v.Index(k))...)
		}
	case reflect.Struct:
		for k := range v.NumField() {
			out = append(out, memory(v.Field(k))...)
		}
	}
	return out
}

// share: do lists of two answers, or of an answer and of what was handed in, share memory? Of one alone: do two of its lists?
func share(l ...any) bool {
	var all []piece
	for _, x := range l {
		all = append(all, memory(reflect.ValueOf(x))...)
	}
	slices.SortFunc(all, func(a, b piece) int { return int(a.from) - int(b.from) })
	for k := 1; k < len(all); k++ {
		if all[k].from < all[k-1].to {
			return true
		}
	}
	return false
}

// lent is something that shares no memory with another one, with more behind each of its lists.
func lent[T any](x T) T {
	out := reflect.New(reflect.TypeOf(x)).Elem()
	lendInto(out, reflect.ValueOf(x))
	return out.Interface().(T)
}

func lendInto(out, x reflect.Value) {
	switch x.Kind() {
	case reflect.Slice:
		n := x.Len()
		out.Set(reflect.MakeSlice(x.Type(), n+40, n+40))
		for k := range n {
			lendInto(out.Index(k), x.Index(k))
		}
		out.Set(out.Slice(0, n))
	case reflect.Struct:
		for k := range x.NumField() {
			lendInto(out.Field(k), x.Field(k))
		}
	default:
		out.Set(x)
	}
}

// toldAll is something as a text that tells all of it, and all that lies behind its lists.
func toldAll(v reflect.Value) string {
	switch v.Kind() {
	case reflect.Slice:
		text := "["
		for k := range v.Cap() {
			text += toldAll(v.Slice(0, v.Cap()).Index(k)) + " "
		}
		return text + "]"
	case reflect.Struct:
		text := "{"
		for k := range v.NumField() {
			text += toldAll(v.Field(k)) + " "
		}
		return text + "}"
	}
	return fmt.Sprint(v.Interface())
}

// asked are arguments of all calls.
type asked struct {
	G    api.Group
	L    []api.Prop
	Seed []byte
	Two  []byte
	C    api.Commit
	W    api.Welcome
	Own  []byte
	Psk  []api.Psk
	M    api.Msg
	B    []byte
}

// calls are all calls, each told by what it answers to some arguments.
func calls() map[string]func(x asked) []any {
	return map[string]func(x asked) []any{
		"Right": func(x asked) []any { return []any{group.Right(x.G)} },
		"Create": func(x asked) []any {
			g, e := group.Create(x.G.Id, 7, x.Seed, x.Two)
			return []any{g, e}
		},
		"Content": func(x asked) []any { return []any{group.Content(x.C)} },
		"Commit": func(x asked) []any {
			g, c, w, e := group.Commit(x.G, x.L, x.Seed, x.Two)
			return []any{g, c, w, e}
		},
		"Process": func(x asked) []any {
			g, e := group.Process(x.G, x.C)
			return []any{g, e}
		},
		"Join": func(x asked) []any {
			g, e := group.Join(x.W, 30, x.Own, x.Psk)
			return []any{g, e}
		},
		"Send": func(x asked) []any {
			g, m, e := group.Send(x.G, x.B)
			return []any{g, m, e}
		},
		"Open": func(x asked) []any {
			g, b, e := group.Open(x.G, x.M)
			return []any{g, b, e}
		},
		"Same": func(x asked) []any { return []any{group.Same(x.G, x.G)} },
	}
}

// someAsked are arguments by which all calls do what they are for, and some by which all fail.
func someAsked(t *testing.T) []asked {
	t.Helper()
	c := busy(t)
	l := []api.Prop{add(30), take(9), remove(20), add(31), take(4)}
	o := commit(c.in[12], l, seedAt(1), seedAt(2))
	by, _, _ := group.Send(c.in[12], nil)
	by, m, _ := group.Send(by, []byte("words"))
	_, last, _ := group.Send(by, nil)
	// Two places are passed over, so that there are spares.
	g, _, e := group.Open(c.in[21], last)
	if e != api.OK {
		t.Fatal(e)
	}
	good := asked{g, l, seedAt(3), seedAt(4), o.Com, o.Welcomes[0], beforehand(30), shared(), m, []byte("words")}
	bad := cloned(good)
	bad.L = append(bad.L, remove(999))
	bad.G.Id = append(bad.G.Id, 0)
	bad.Seed = seedAt(5)[:31]
	bad.C.Proof[0]++
	bad.W.Com.Proof[0]++
	bad.B = make([]byte, 10001)
	worse := cloned(good)
	worse.C.Proof[0]++
	worse.C = resigned(worse.G, worse.C)
	worse.W.Log[0]++
	worse.M.Box[3]++
	return []asked{good, bad, worse}
}

// R3: what is handed in stays as it was, with what lies behind it in the same memory; and no answer shares memory with it, nor do two lists of an answer, beside an error, too.
func TestNothingIsShared(t *testing.T) {
	for k, x := range someAsked(t) {
		for name, call := range calls() {
			in := lent(x)
			was := toldAll(reflect.ValueOf(in))
			answer := call(in)
			if toldAll(reflect.ValueOf(in)) != was {
				t.Errorf("%d, %s: written into what was handed in, or behind it", k, name)
			}
			if share(append(answer, in)...) {
				t.Errorf("%d, %s: memory is shared", k, name)
			}
			again := call(in)
			if told(again) != told(answer) || share(append(answer, again...)...) {
				t.Errorf("%d, %s: asked twice: %s\n%s", k, name, told(answer), told(again))
			}
		}
	}
}

// R4: what is asked at the same time, with the same arguments, is answered as what is asked alone.
func TestAtTheSameTime(t *testing.T) {
	all := someAsked(t)
	want := map[string]string{}
	for k, x := range all {
		for name, call := range calls() {
			want[name+string(rune(k))] = told(call(x))
		}
	}
	var asking sync.WaitGroup
	for range 8 {
		asking.Go(func() {
			for k, x := range all {
				for name, call := range calls() {
					if got := told(call(x)); got != want[name+string(rune(k))] {
						t.Errorf("%d, %s: %s", k, name, got)
					}
				}
			}
		})
	}
	asking.Wait()
}

// answersAll makes each call, and asks that it ends without a panic, that beside an error there is nothing, or what was, and that nothing is written into.
func answersAll(t *testing.T, x asked) {
	t.Helper()
	was := told(x)
	for name, call := range calls() {
		answer := call(x)
		e, is := answer[len(answer)-1].(api.Errno)
		if !is || e == api.OK {
			continue
		}
		if e < api.OK || e > api.ErrState {
			t.Errorf("%s: error %d", name, e)
		}
		for k, part := range answer[:len(answer)-1] {
			g, is := part.(api.Group)
			keeps := is && name != "Create" && name != "Join"
			if keeps && told(g) != told(x.G) || !keeps && len(memory(reflect.ValueOf(part))) > 0 {
				t.Errorf("%s: error %d, and part %d: %s", name, e, k, told(part))
			}
		}
	}
	if told(x) != was {
		t.Errorf("written into: %s", was)
	}
}

// R1: no argument, however wrong, makes a call panic: each number, byte and list of each argument changed, and cut.
func TestAnswersAll(t *testing.T) {
	answersAll(t, asked{})
	x := someAsked(t)[0]
	// Of rows of bytes a few are enough: those of the others are gone through as these are.
	x.G.Own, x.G.Psk = x.G.Own[:2], x.G.Psk[:1]
	answersAll(t, x)
	d := draws(8)
	v := reflect.ValueOf(&x).Elem()
	changed(v, func() {
		if d.below(40) == 0 {
			answersAll(t, x)
		}
	})
	for _, n := range []int{-1, 0, 1, 7, 8, 63, 64, 1024, 65536, lastEpoch, lastEpoch + 1, lastEpoch + 2, least, greatest, 1 << 62, 1<<62 + 3, 1<<63 - 2} {
		for _, at := range []*int{&x.G.Epoch, &x.G.Me, &x.G.Tree[0].Name, &x.G.Tree[0].Kind, &x.G.Tree[11].Un[0], &x.G.Own[0].Node, &x.G.Chain[2].Next, &x.G.Chain[7].Next, &x.G.Psk[0].Id, &x.L[0].Kind, &x.L[0].Name, &x.C.Epoch, &x.C.From, &x.W.Com.Epoch, &x.W.Com.From, &x.W.Tree[0].Name, &x.M.Epoch, &x.M.From, &x.M.At} {
			was := *at
			*at = n
			answersAll(t, x)
			// The commit from there, signed, in the epoch that there is.
			y := cloned(x)
			y.C.Epoch = y.G.Epoch
			y.C = resigned(y.G, y.C)
			answersAll(t, y)
			*at = was
		}
	}
}

// R1: trees that no group has: rows of nodes of any length, of any kinds.
func TestAnswersTrees(t *testing.T) {
	good := someAsked(t)[0]
	d := draws(9)
	kinds := []api.Node{{}, {Kind: 3}, {Kind: -1, Un: []int{least, greatest}}, parent(1, 9, 3, -1, 3, least, greatest, 1<<62), {Kind: api.Leaf, Un: []int{1}}, {Kind: api.Parent}, good.G.Tree[0], good.G.Tree[4], good.G.Tree[11], {Name: 7, Hash: []byte{1}}, {Kind: api.Leaf, Name: least}, parent(2), parent(3, 0, 1)}
	for n := range 20 {
		for range 12 {
			x := good
			x.G.Tree = make([]api.Node, n)
			for k := range x.G.Tree {
				x.G.Tree[k] = kinds[d.below(len(kinds))]
			}
			x.G.Me, x.C.From, x.M.From = d.below(10), d.below(10), d.below(10)
			x.G.Chain = x.G.Chain[:d.below(9)]
			x.W.Tree = x.G.Tree
			x.W.Com.From = d.below(10)
			answersAll(t, x)
			x.C = resigned(x.G, x.C)
			answersAll(t, x)
		}
	}
	for _, n := range []int{128, 1024} {
		x := good
		x.G.Tree = append(cloned(x.G.Tree), make([]api.Node, 2*n-1-15)...)
		x.W.Tree = x.G.Tree
		x.C = resigned(x.G, x.C)
		answersAll(t, x)
	}
}

// R1: groups, commits and welcomes of drawn bytes are answered.
func FuzzAll(f *testing.F) {
	f.Add([]byte{}, 0, 0, 0)
	f.Add(counted(200, 1), 5, 3, 1)
	f.Add(bytes.Repeat([]byte{255}, 90), least, greatest, -1)
	var good asked
	f.Fuzz(func(t *testing.T, b []byte, i, j, k int) {
		if good.G.Id == nil {
			good = someAsked(t)[0]
		}
		x := cloned(good)
		for n, at := range []*int{&x.G.Epoch, &x.G.Me, &x.C.From, &x.W.Com.From, &x.M.From, &x.M.At, &x.C.Epoch, &x.G.Chain[2].Next} {
			if n < len(b) && b[n]%4 > 0 {
				*at = []int{i, j, k}[b[n]%4-1]
			}
		}
		rows := append(rowsOfCommit(&x.C), &x.G.Log, &x.G.Sec.Init, &x.W.Log, &x.W.Box.B, &x.M.Box, &x.Seed)
		for n, row := range rows {
			if 10+n < len(b) && b[10+n]%2 > 0 {
				*row = b[:int(b[10+n])%len(b)]
			}
		}
		answersAll(t, x)
		x.C.Epoch = x.G.Epoch
		x.C = resigned(x.G, x.C)
		answersAll(t, x)
	})
}
