package sched_test

import (
	"bytes"
	"testing"

	"pyx/mac"
	"pyx/sched"
)

// P12.5: proofs that are reckoned elsewhere.
func TestProofToldElsewhere(t *testing.T) {
	e := someEpoch(0)
	e.Confirm = counted(32, 30)
	got, err := sched.Proof(e, counted(32, 77))
	isRow(t, got, err, unhex(t, "15fcaa87fa0d4068c6be29d47c5d9fdef4cdf241507f2425b4098bb1800d3c12"))
	got, err = sched.Proof(e, make([]byte, 32))
	isRow(t, got, err, unhex(t, "f3c2e3ace1b755ffb6f1f484318a47c715bb1b96f028b07d242c81df30d98ed2"))
}

// P12.5: the tag of the log under Confirm, and not the other way.
func TestProof(t *testing.T) {
	for _, p := range somePairs() {
		e := someEpoch(1)
		e.Confirm = p[0]
		got, err := sched.Proof(e, p[1])
		isRow(t, got, err, tagOf(p[0], p[1]), p)
		isRow(t, got, err, mac.Sum(p[0], p[1]), p)
	}
	e := epochOf(counted(32, 1), full(32), counted(75, 4))
	got, err := sched.Proof(e, full(32))
	isRow(t, got, err, tagOf(e.Confirm, full(32)))
}

// P12.5: it hangs on each byte of Confirm and of the log, and on no other secret of the epoch.
func TestProofTellsConfirm(t *testing.T) {
	of, log := someEpoch(1), counted(32, 77)
	want, _ := sched.Proof(of, log)
	for at := range 32 {
		for i := range 5 {
			other := cloned(of)
			secret := parts(&other)[i]
			(*secret)[at] ^= 1
			got, _ := sched.Proof(other, log)
			if bytes.Equal(got, want) != (secret != &other.Confirm) {
				t.Errorf("secret %d, byte %d: %x, and %x", i, at, got, want)
			}
		}
		other := bytes.Clone(log)
		other[at] ^= 1
		if got, _ := sched.Proof(of, other); bytes.Equal(got, want) {
			t.Errorf("the log's byte %d: %x of both", at, got)
		}
	}
}

// P12.5: an epoch that isn't right, for each of its secrets.
func TestProofRefusesEpochs(t *testing.T) {
	for i, e := range wrongEpochs() {
		for _, log := range [][]byte{counted(32, 1), counted(31, 1), nil} {
			got, err := sched.Proof(e, log)
			isRefused(t, got, err, "epoch", i, len(log))
		}
	}
}

// P12.5: a log of not 32 bytes.
func TestProofRefusesLogs(t *testing.T) {
	for _, n := range wrongLengths {
		got, err := sched.Proof(someEpoch(1), counted(n, 1))
		isRefused(t, got, err, "a log of", n)
	}
	got, err := sched.Proof(someEpoch(1), nil)
	isRefused(t, got, err, "no log")
}
