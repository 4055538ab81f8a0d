package sched_test

import (
	"bytes"
	"testing"

	"pyx/api"
	"pyx/sched"
)

// P12.5: logs that are reckoned elsewhere.
func TestLogToldElsewhere(t *testing.T) {
	for _, x := range []struct {
		log, confirm, b []byte
		want            string
	}{
		{make([]byte, 32), nil, nil, "da3b2ff968b2c97345bf6a6f13678f5b7a5ddfa041580b41aa56f0d2e7bd434d"},
		{counted(32, 1), counted(32, 9), counted(100, 7), "3015988600be949662e40fd4a8c0672cd387483a7677b90476ec0ad83f5e42c7"},
		{full(32), []byte{1}, []byte{2, 3}, "3df49efc292db7b36db9048c89f3fcd900491d392a499da870ab9f656c838b3e"},
	} {
		got, e := sched.Log(x.log, x.confirm, x.b)
		isRow(t, got, e, unhex(t, x.want))
	}
}

// P12.5: of rows of all lengths, of no byte among them.
func TestLog(t *testing.T) {
	for _, n := range edges {
		for _, many := range edges {
			got, e := sched.Log(counted(32, n), counted(n, 3), counted(many, 5))
			isRow(t, got, e, logOf(counted(32, n), counted(n, 3), counted(many, 5)), n, many)
		}
	}
	for _, p := range somePairs() {
		got, e := sched.Log(p[0], p[1], p[0])
		isRow(t, got, e, logOf(p[0], p[1], p[0]))
	}
	got, e := sched.Log(full(32), []byte{}, []byte{})
	isRow(t, got, e, logOf(full(32), nil, nil))
}

// P12.5: a log that goes on from the log ahead, and tells all that it went over.
func TestLogGoesOn(t *testing.T) {
	ahead, other := make([]byte, 32), make([]byte, 32)
	seen := map[string]int{string(ahead): 1}
	for i := range 100 {
		got, e := sched.Log(ahead, counted(32, i), counted(i, i))
		isRow(t, got, e, logOf(ahead, counted(32, i), counted(i, i)), i)
		seen[string(got)]++
		// At one place alone the other one goes over something else, and isn't the same from there on.
		b := counted(i, i)
		if i == 50 {
			b[49] ^= 1
		}
		aside, e := sched.Log(other, counted(32, i), b)
		if e != api.OK || bytes.Equal(aside, got) != (i < 50) {
			t.Errorf("place %d: %x, and %x, %d", i, got, aside, e)
		}
		ahead, other = got, aside
	}
	if len(seen) != 101 {
		t.Errorf("%d logs; want 101", len(seen))
	}
}

// P12.5: a log of not 32 bytes.
func TestLogRefuses(t *testing.T) {
	for _, n := range wrongLengths {
		for _, b := range [][]byte{nil, counted(32, 1), counted(64, 1)} {
			got, e := sched.Log(counted(n, 1), b, b)
			isRefused(t, got, e, "a log of", n)
		}
	}
	got, e := sched.Log(nil, nil, nil)
	isRefused(t, got, e, "no log")
}

// P12.5: another log, confirm, or what is gone over, makes another log; so does a byte that stands in the one instead of in the other.
func TestLogTellsArguments(t *testing.T) {
	seen := map[string]int{}
	many := 0
	tell := func(log, confirm, b []byte) {
		got, _ := sched.Log(log, confirm, b)
		seen[string(got)]++
		many++
	}
	all := counted(70, 1)
	for n := range len(all) + 1 {
		tell(full(32), all[:n], all[n:])
		tell(full(32), all[n:], append(bytes.Clone(all[:n]), 0))
	}
	for i := range 32 {
		rows := [][]byte{counted(32, 7), counted(32, 90), counted(32, 150)}
		for k := range rows {
			rows[k][i] ^= 0x40
			tell(rows[0], rows[1], rows[2])
			rows[k][i] ^= 0x40
		}
	}
	for _, n := range []int{0, 1, 2, 31, 33} {
		tell(make([]byte, 32), make([]byte, n), nil)
		tell(make([]byte, 32), nil, make([]byte, n+1))
		tell(make([]byte, 32), make([]byte, n), full(1))
	}
	if len(seen) != many {
		t.Errorf("%d logs; want %d", len(seen), many)
	}
}
