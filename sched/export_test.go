package sched_test

import (
	"bytes"
	"testing"

	"pyx/sched"
)

// counts are those of bytes that are asked for, the least and the greatest among them.
var counts = []int{0, 1, 2, 16, 31, 32, 33, 50, 63, 64, 65, 255, 256, 257, 1024, 8128, 8159, 8160}

// wrongCounts are such that aren't answered.
var wrongCounts = []int{least, -65536, -8160, -32, -1, 8161, 8162, 8192, 65535, 65536, 65536 + 32, 1 << 32, 1<<32 + 32, greatest}

// P12.5: secrets for others, that are reckoned elsewhere.
func TestExportToldElsewhere(t *testing.T) {
	of := someEpoch(0)
	of.Export = counted(32, 20)
	for _, x := range []struct {
		label   string
		context []byte
		want    string
	}{
		{"", nil, "2145779331f515fd6005b3d65bdf6fa462bf9eb93db1623cd685066bccc795b1"},
		{"call", []byte{9}, "ac95cfd9b345f7442a99a03598e5f559d61f1d4f9ae8d0b51f4ca2324681490f783841d88386f49c4019f92ea49998b4f3e5"},
		{"call", counted(100, 3), "c5681065bae84500aeebccb83b501cc5"},
		{"x", []byte{}, "de"},
	} {
		want := unhex(t, x.want)
		got, e := sched.Export(of, x.label, x.context, len(want))
		isRow(t, got, e, want, x.label, len(x.context))
	}
}

// P12.5: of labels and contexts of all lengths, of no byte among them.
func TestExport(t *testing.T) {
	of := someEpoch(1)
	for _, label := range someLabels() {
		for _, context := range someContexts() {
			got, e := sched.Export(of, label, context, 40)
			isRow(t, got, e, exportOf(of, label, context, 40), len(label), len(context))
		}
	}
	for _, p := range somePairs() {
		of.Export = p[0]
		got, e := sched.Export(of, "label", p[1], 32)
		isRow(t, got, e, exportOf(of, "label", p[1], 32), p)
	}
}

// P12.5: of no byte, of one, and of as many as there may be.
func TestExportOfMany(t *testing.T) {
	of := epochOf(counted(32, 1), full(32), counted(75, 4))
	for _, n := range counts {
		for _, label := range []string{"", "call"} {
			got, e := sched.Export(of, label, []byte{9}, n)
			isRow(t, got, e, exportOf(of, label, []byte{9}, n), label, n)
			got, e = sched.Export(of, label, nil, n)
			isRow(t, got, e, exportOf(of, label, []byte{}, n), label, n)
		}
	}
}

// P12.5: it hangs on each byte of Export, and on no other secret of the epoch.
func TestExportTellsExport(t *testing.T) {
	of := someEpoch(1)
	want, _ := sched.Export(of, "call", []byte{9}, 16)
	for at := range 32 {
		for i := range 5 {
			other := cloned(of)
			secret := parts(&other)[i]
			(*secret)[at] ^= 1
			got, _ := sched.Export(other, "call", []byte{9}, 16)
			if bytes.Equal(got, want) != (secret != &other.Export) {
				t.Errorf("secret %d, byte %d: %x, and %x", i, at, got, want)
			}
		}
	}
}

// P12.5: another label, context or count makes other bytes, even if what stands in the one stands in the other instead.
func TestExportTellsArguments(t *testing.T) {
	of := someEpoch(1)
	seen := map[string]int{}
	many := 0
	for _, label := range someLabels() {
		for _, context := range someContexts()[1:] {
			if len(context) > 100 {
				continue
			}
			for _, n := range []int{16, 17, 32} {
				got, _ := sched.Export(of, label, context, n)
				if len(got) != n {
					t.Fatalf("%d bytes; want %d", len(got), n)
				}
				seen[string(got[:16])]++
				many++
			}
		}
	}
	if len(seen) != many {
		t.Errorf("%d secrets; want %d", len(seen), many)
	}
}

// P12.5: counts of bytes that there aren't.
func TestExportRefusesCounts(t *testing.T) {
	for _, n := range wrongCounts {
		for _, label := range []string{"", "call"} {
			got, e := sched.Export(someEpoch(1), label, nil, n)
			isRefused(t, got, e, label, n)
			got, e = sched.Export(someEpoch(1), label, counted(100, 1), n)
			isRefused(t, got, e, label, n)
		}
	}
}

// P12.5: an epoch that isn't right, for each of its secrets.
func TestExportRefusesEpochs(t *testing.T) {
	for i, of := range wrongEpochs() {
		for _, n := range []int{-1, 0, 1, 32, 8160, 8161} {
			got, e := sched.Export(of, "call", []byte{9}, n)
			isRefused(t, got, e, "epoch", i, n)
			got, e = sched.Export(of, "", nil, n)
			isRefused(t, got, e, "epoch", i, n)
		}
	}
}
