package group

import (
	"errors"
	"testing"

	"pyx/api"
)

// panicked is what was panicked with.
func panicked(do func()) (thrown any) {
	defer func() { thrown = recover() }()
	do()
	return nil
}

// The section Ways: an error that is handed up by a panic is told; without one all is done.
func TestTried(t *testing.T) {
	for _, want := range []api.Errno{api.ErrArg, api.ErrKey, api.ErrState} {
		behind := false
		e := tried(func() {
			need(true, api.ErrBig)
			need(false, want)
			behind = true
		})
		if e != want || behind {
			t.Errorf("%d, %t; want %d", e, behind, want)
		}
		if e := tried(func() { got(1, want) }); e != want {
			t.Errorf("%d, want %d", e, want)
		}
	}
	done := 0
	if e := tried(func() { done = got(5, api.OK) }); e != api.OK || done != 5 {
		t.Errorf("%d, %d", e, done)
	}
	// The one inside is told inside.
	var inner api.Errno
	if e := tried(func() { inner = tried(func() { need(false, api.ErrNone) }) }); e != api.OK || inner != api.ErrNone {
		t.Errorf("%d, %d", e, inner)
	}
}

// The section Ways: another panic is handed on, as it is: also one of an error's number, that nobody handed up.
func TestTriedHandsOn(t *testing.T) {
	fault := errors.New("fault")
	for _, x := range []any{fault, "text", 7, api.ErrArg, struct{}{}} {
		if thrown := panicked(func() { tried(func() { panic(x) }) }); thrown != x {
			t.Errorf("%v, want %v", thrown, x)
		}
	}
	var none []int
	if thrown := panicked(func() { tried(func() { none[len(none)] = 1 }) }); thrown == nil {
		t.Error("no panic")
	}
	if thrown := panicked(func() { tried(func() { tried(func() { panic(fault) }) }) }); thrown != fault {
		t.Errorf("%v, want %v", thrown, fault)
	}
}
