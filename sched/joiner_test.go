package sched_test

import (
	"testing"

	"pyx/api"
	"pyx/sched"
)

// P12.2: secrets of who joins, that are reckoned elsewhere.
func TestJoinerToldElsewhere(t *testing.T) {
	for _, x := range []struct {
		init, last, context []byte
		want                string
	}{
		{counted(32, 1), counted(32, 50), contextOf([]byte{7, 8}, 258, counted(32, 1), counted(32, 101)), "950404225eb21d9135e070b9bd39ab9b320878405b4fba0016f9a576461e2223"},
		{make([]byte, 32), make([]byte, 32), nil, "da28f8e87c8b3b25fe1f9c5bc6a65963b5213a51928fd825f807efdd004485bc"},
		{full(32), counted(32, 0), []byte{0}, "275d09020d4f1b065728b3061a55045e7e0b28e7464ba28d4110616dba06ed26"},
	} {
		got, e := sched.Joiner(x.init, x.last, x.context)
		isRow(t, got, e, unhex(t, x.want))
	}
}

// P12.2: of secrets and contexts of all kinds, a context of no byte among them; which of the two is the salt is told.
func TestJoiner(t *testing.T) {
	for _, p := range somePairs() {
		for _, context := range someContexts() {
			got, e := sched.Joiner(p[0], p[1], context)
			isRow(t, got, e, joinerOf(p[0], p[1], context), p, len(context))
		}
		got, e := sched.Joiner(p[0], p[1], []byte{})
		isRow(t, got, e, joinerOf(p[0], p[1], nil), p)
	}
}

// refusesPairs asks that a call of two secrets and a context refuses such as have not 32 bytes.
func refusesPairs(t *testing.T, refused func(salt, secret, context []byte, what ...any)) {
	t.Helper()
	for _, context := range [][]byte{nil, counted(75, 4)} {
		for _, n := range wrongLengths {
			refused(counted(n, 1), counted(32, 2), context, "the first one of", n)
			refused(counted(32, 1), counted(n, 2), context, "the second one of", n)
			for _, many := range wrongLengths {
				refused(counted(n, 1), counted(many, 2), context, "both of", n, many)
			}
		}
		refused(nil, counted(32, 2), context, "not the first one")
		refused(counted(32, 1), nil, context, "not the second one")
		refused(nil, nil, context, "none of both")
	}
}

// P12.2: an init, or a last, of not 32 bytes.
func TestJoinerRefuses(t *testing.T) {
	refusesPairs(t, func(init, last, context []byte, what ...any) {
		t.Helper()
		got, e := sched.Joiner(init, last, context)
		isRefused(t, got, e, what...)
	})
}

// tellsPairs asks that a call of two secrets and a context answers others, of 32 bytes, for each byte of each of these that is another one.
func tellsPairs(t *testing.T, told func(salt, secret, context []byte) ([][]byte, api.Errno)) {
	t.Helper()
	seen := map[string]int{}
	many := 0
	tell := func(salt, secret, context []byte) {
		t.Helper()
		got, e := told(salt, secret, context)
		for i, x := range got {
			if e != api.OK || len(x) != 32 {
				t.Errorf("secret %d: %d bytes, %d", i, len(x), e)
			}
			seen[string(x)]++
			many++
		}
	}
	for i := range 32 {
		for _, x := range []byte{1, 0x80} {
			rows := [][]byte{counted(32, 7), counted(32, 90), counted(32, 150)}
			for k := range rows {
				rows[k][i] ^= x
				tell(rows[0], rows[1], rows[2])
				rows[k][i] ^= x
			}
		}
	}
	tell(counted(32, 7), counted(32, 90), counted(32, 150))
	tell(counted(32, 90), counted(32, 7), counted(32, 150))
	tell(counted(32, 7), counted(32, 90), append(counted(32, 150), 0))
	tell(counted(32, 7), counted(32, 90), nil)
	if len(seen) != many {
		t.Errorf("%d secrets; want %d", len(seen), many)
	}
}

// P12.2: another init, last or context makes another secret.
func TestJoinerTellsArguments(t *testing.T) {
	tellsPairs(t, func(init, last, context []byte) ([][]byte, api.Errno) {
		got, e := sched.Joiner(init, last, context)
		return [][]byte{got}, e
	})
}
