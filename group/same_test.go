package group_test

import (
	"reflect"
	"testing"

	"pyx/api"
	"pyx/group"
)

// isSame asks of two groups, both ways round, whether they are the same, and that both stay as they are.
func isSame(t *testing.T, a, b api.Group, want bool) {
	t.Helper()
	was := told(a) + told(b)
	if x, y := group.Same(a, b), group.Same(b, a); x != want || y != want {
		t.Errorf("%t, %t, want %t:\n%s\n%s", x, y, want, told(a), told(b))
	}
	if told(a)+told(b) != was {
		t.Errorf("written into: %s", was)
	}
}

// changed goes through all that may be changed in something, at one place each: numbers, bytes, and how long a row is. What is asked then sees it changed; it is what it was behind that.
func changed(v reflect.Value, ask func()) {
	with := func(x reflect.Value) {
		was := reflect.ValueOf(v.Interface())
		v.Set(x.Convert(v.Type()))
		ask()
		v.Set(was)
	}
	switch v.Kind() {
	case reflect.Int:
		with(reflect.ValueOf(int(v.Int()) + 1))
		with(reflect.ValueOf(int(v.Int()) ^ 1<<40))
		with(reflect.ValueOf(-1 - int(v.Int())))
	case reflect.Uint8:
		with(reflect.ValueOf(byte(v.Uint()) ^ 1))
		with(reflect.ValueOf(byte(v.Uint()) ^ 128))
	case reflect.Slice:
		with(reflect.Append(v.Slice3(0, v.Len(), v.Len()), reflect.Zero(v.Type().Elem())))
		if n := v.Len(); n > 0 {
			with(v.Slice(0, n-1))
			with(v.Slice(1, n))
			with(reflect.Zero(v.Type()))
		}
		for k := range v.Len() {
			changed(v.Index(k), ask)
		}
	case reflect.Struct:
		for k := range v.NumField() {
			changed(v.Field(k), ask)
		}
	}
}

// someGroups are groups of all kinds: of one, with spares and shared secrets, with Un, and nothing.
func someGroups(t *testing.T) []api.Group {
	t.Helper()
	one, _ := group.Create([]byte("one"), 3, seedAt(1), seedAt(2))
	c := busy(t)
	g, m := c.in[20], api.Msg{}
	by := c.in[12]
	for range 4 {
		by, m, _ = group.Send(by, []byte("words"))
	}
	g, _, e := group.Open(g, m)
	if e != api.OK || len(g.Chain[2].Spare) != 3 {
		t.Fatal(e, g.Chain[2])
	}
	return []api.Group{{}, one, g, c.in[10], byHand(t, 4)}
}

// P14.1: a group is the same as another one of its kind, whatever memory that has, and as none in which one thing is another one.
func TestSame(t *testing.T) {
	for _, g := range someGroups(t) {
		isSame(t, g, g, true)
		isSame(t, g, cloned(g), true)
		other := cloned(g)
		places := 0
		changed(reflect.ValueOf(&other).Elem(), func() {
			places++
			if group.Same(g, other) || group.Same(other, g) {
				t.Errorf("the same:\n%s\n%s", told(g), told(other))
			}
		})
		isSame(t, g, other, true)
		if places < 40 && len(g.Tree) > 0 {
			t.Errorf("%d places", places)
		}
	}
}

// P14.1: of all groups of a history, each is the same as itself alone.
func TestSameOfMany(t *testing.T) {
	all := someGroups(t)
	c := newCrowd(t, []byte("many"), 1, 2, 3)
	for range 3 {
		for _, name := range c.names() {
			all = append(all, c.in[name])
		}
		c.step(2)
	}
	for k, a := range all {
		for n, b := range all {
			isSame(t, a, cloned(b), k == n)
		}
	}
}

// P14.1, R3: lists without elements are the same, whether they are nil or not.
func TestSameOfNone(t *testing.T) {
	none := api.Group{
		Id:    []byte{},
		Tree:  []api.Node{},
		Own:   []api.Seed{},
		Log:   []byte{},
		Sec:   api.Epoch{Init: []byte{}, Send: []byte{}, Export: []byte{}, Confirm: []byte{}, Resume: []byte{}},
		Chain: []api.Chain{},
		Psk:   []api.Psk{},
	}
	isSame(t, api.Group{}, none, true)
	isSame(t, api.Group{Tree: []api.Node{{}}, Own: []api.Seed{{}}, Chain: []api.Chain{{}}, Psk: []api.Psk{{}}}, api.Group{
		Tree:  []api.Node{{Pub: []byte{}, Un: []int{}, Hash: []byte{}}},
		Own:   []api.Seed{{Seed: []byte{}}},
		Chain: []api.Chain{{Secret: []byte{}, Spare: []api.Lock{}}},
		Psk:   []api.Psk{{Secret: []byte{}}},
	}, true)
	isSame(t, api.Group{Chain: []api.Chain{{Spare: []api.Lock{{}}}}}, api.Group{Chain: []api.Chain{{Spare: []api.Lock{{Key: []byte{}, Nonce: []byte{}}}}}}, true)
}
