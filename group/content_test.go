package group_test

import (
	"bytes"
	"reflect"
	"testing"

	"pyx/api"
	"pyx/group"
)

// someCommit is a commit with parts of all kinds.
func someCommit() api.Commit {
	return api.Commit{
		Id:    []byte("id"),
		Epoch: 7,
		From:  3,
		Prop:  []api.Prop{{Kind: api.PAdd, Name: 258, Pub: counted(32, 1)}, {Kind: api.PRemove, Name: 9}, {Kind: api.PPsk, Name: 65535, Pub: []byte{1}}},
		Path: api.Path{Pub: counted(32, 40), Step: []api.Step{
			{Pub: counted(32, 80), For: []api.Sealed{{Half: counted(32, 120), B: counted(64, 160)}, {Half: counted(32, 121), B: counted(64, 161)}}},
			{Pub: counted(32, 81)},
			{Pub: counted(3, 82), For: []api.Sealed{{}}},
		}},
		Proof: counted(32, 200),
		Sign:  counted(32, 210),
	}
}

// isContent asks that a commit's content is as the model has it, and the commit what it was.
func isContent(t *testing.T, c api.Commit) {
	t.Helper()
	was := told(c)
	if got := group.Content(c); !bytes.Equal(got, contentOf(c)) {
		t.Errorf("%s: %x, want %x", was, got, contentOf(c))
	}
	if told(c) != was {
		t.Errorf("%s: written into", was)
	}
}

// P14.1: a content, byte by byte.
func TestContentBytes(t *testing.T) {
	isContent(t, api.Commit{})
	want := "00" + "000000000000" + "0000" + "0000" + "00" + "0000"
	if got := group.Content(api.Commit{}); told(got) != want {
		t.Errorf("of nothing: %x, want %s", got, want)
	}
	want = "026964" + "000000000007" + "0003" +
		"0003" + "01" + "0102" + "20" + told(counted(32, 1)) + "02" + "0009" + "00" + "03" + "ffff" + "0101" +
		"20" + told(counted(32, 40)) + "0003" +
		"20" + told(counted(32, 80)) + "0002" + "20" + told(counted(32, 120)) + "4040" + told(counted(64, 160)) + "20" + told(counted(32, 121)) + "4040" + told(counted(64, 161)) +
		"20" + told(counted(32, 81)) + "0000" +
		"03525354" + "0001" + "00" + "00"
	if got := group.Content(someCommit()); told(got) != want {
		t.Errorf("%x, want %s", got, want)
	}
	isContent(t, someCommit())
}

// P14.1: numbers and rows about the edges of what tells them.
func TestContentEdges(t *testing.T) {
	for _, n := range []int{0, 1, 255, 256, 65535, 65536, 1<<32 - 1, 1 << 32, lastEpoch, 1<<48 - 1} {
		c := someCommit()
		c.Epoch = n
		isContent(t, c)
		if n < 65536 {
			c.From = n
			c.Prop[1].Name = n
			isContent(t, c)
		}
		if n < 256 {
			c.Prop[1].Kind = n
			isContent(t, c)
		}
	}
	for _, n := range []int{0, 1, 62, 63, 64, 65, 255, 256, 1000, 16383, 16384, 70000} {
		for k := range 6 {
			c := someCommit()
			*[]*[]byte{&c.Id, &c.Prop[0].Pub, &c.Path.Pub, &c.Path.Step[1].Pub, &c.Path.Step[2].For[0].Half, &c.Path.Step[2].For[0].B}[k] = counted(n, k)
			isContent(t, c)
		}
	}
	for _, n := range []int{0, 1, 255, 256, 65535} {
		c := someCommit()
		c.Prop = make([]api.Prop, n)
		isContent(t, c)
		c.Path.Step = make([]api.Step, n)
		isContent(t, c)
		c = someCommit()
		c.Path.Step[1].For = make([]api.Sealed, n)
		isContent(t, c)
	}
}

// P14.1: another commit has another content, wherever one thing is another one; only Proof and Sign aren't told.
func TestContentTellsAll(t *testing.T) {
	c := someCommit()
	want := group.Content(c)
	// Where a list has one element, several changes make the same commit.
	commits, contents := map[string]int{}, map[string]int{}
	ask := func() {
		// Numbers that no content tells have none.
		for _, p := range c.Prop {
			if p.Kind < 0 || p.Kind > 255 || p.Name < 0 || p.Name > 65535 {
				return
			}
		}
		commits[told(c)]++
		contents[string(group.Content(c))]++
	}
	ask()
	for _, part := range []any{&c.Id, &c.Prop, &c.Path} {
		changed(reflect.ValueOf(part).Elem(), ask)
	}
	for _, n := range []int{0, 8, 1 << 40} {
		c.Epoch = n
		ask()
	}
	c.Epoch = 7
	for _, n := range []int{0, 2, 65535} {
		c.From = n
		ask()
	}
	c.From = 3
	if len(commits) < 700 || len(contents) != len(commits) {
		t.Errorf("%d contents of %d commits", len(contents), len(commits))
	}
	changed(reflect.ValueOf(&c.Proof).Elem(), func() { isContent(t, c) })
	changed(reflect.ValueOf(&c.Sign).Elem(), func() { isContent(t, c) })
	if c.Proof, c.Sign = nil, nil; !bytes.Equal(group.Content(c), want) {
		t.Error("Proof and Sign are told")
	}
}

// R1: a commit whose numbers a content can't tell has none, and that is told without a panic.
func TestContentOfNone(t *testing.T) {
	for k := range 4 {
		for _, n := range []int{-1, least, greatest, 1 << 48, 1<<48 + 5} {
			c := someCommit()
			*[]*int{&c.Epoch, &c.From, &c.Prop[1].Kind, &c.Prop[1].Name}[k] = n
			if got := group.Content(c); got != nil {
				t.Errorf("%s: %x", told(c), got)
			}
		}
	}
	c := someCommit()
	c.Prop = make([]api.Prop, 65536)
	if got := group.Content(c); got != nil {
		t.Errorf("65536 proposed: %.40x", got)
	}
	c = someCommit()
	c.Path.Step[0].For = make([]api.Sealed, 65536)
	if got := group.Content(c); got != nil {
		t.Errorf("65536 wrapped: %.40x", got)
	}
}
