package sched_test

import (
	"bytes"
	"testing"

	"pyx/api"
	"pyx/sched"
)

// P12.4: epochs' secrets, that are reckoned elsewhere.
func TestEpochToldElsewhere(t *testing.T) {
	for _, x := range []struct {
		joiner, shared, context []byte
		want                    [5]string
	}{
		{counted(32, 1), counted(32, 50), contextOf([]byte{7, 8}, 258, counted(32, 1), counted(32, 101)), [5]string{
			"bed1d46a9be8aeecec4b09dcf14c4daefaa1628be952891aed78d19828f8cd10",
			"eb87210e213a2606a1dda91470bd6fe78e7fa6ff7a49756a8209b10cea5fe869",
			"0881fb1610383b9937717e42d1249d7fd81dbcd6a91d7dd90a7e67f8319e20c5",
			"24ce7586737556032ba9d4dec999eb9c1f02bf5462dec15140af9966f7c2adb2",
			"47a105e50ab3849f0eca6f127d86f7ce52d412d4d17ff91b80b7c30a06fd9c8b",
		}},
		{make([]byte, 32), make([]byte, 32), nil, [5]string{
			"86279ef21a2c7c60315c5c905a81fc82aa0e89a4535b8a4ddbd92ddc69d263c8",
			"c977c40c39beb59e7cddc6abd9947e3e9104a52ae55c736e562aedf321d134fd",
			"62ddb513b99604769013aab63a7efce10d7f991b2d018c53abf2fd873aff406f",
			"90e0b90a78f7c988f72cd442814e9a330d7085e21137aeb34b8167c13402adf5",
			"9a363889fd7948f01ac4296f5276f7ef265226cce06aaefa8c547180f50a1b70",
		}},
		{full(32), make([]byte, 32), []byte{0}, [5]string{
			"0db1175640f7261ace6a4451f7aa8a4a869166a5926804f1b096e3a0ea4d3d5b",
			"bfe3daff4cfee13c5a2e6eabfdcd47c3647ba9593bf8b1e13efb50e9fafa95fd",
			"31d9fc5c721fe858b6afe35b3bb104d2efb97955330a5dce3e3b5a3cca24fa95",
			"36440710687676737db551d382f69c68884ae6a3438f58220dad4fb3251e8055",
			"69808ee5bda9464258382c7471bbfa832dc4278f320049eb94a76e4aec12229a",
		}},
	} {
		var want api.Epoch
		for i, part := range parts(&want) {
			*part = unhex(t, x.want[i])
		}
		got, e := sched.Epoch(x.joiner, x.shared, x.context)
		isEpoch(t, got, e, want)
	}
}

// P12.4: of secrets and contexts of all kinds, a context of no byte among them; which of the two is the salt is told.
func TestEpoch(t *testing.T) {
	for _, p := range somePairs() {
		for _, context := range someContexts() {
			got, e := sched.Epoch(p[0], p[1], context)
			isEpoch(t, got, e, epochOf(p[0], p[1], context), p, len(context))
		}
		got, e := sched.Epoch(p[0], p[1], []byte{})
		isEpoch(t, got, e, epochOf(p[0], p[1], nil), p)
	}
}

// P12.4: a joiner, or a shared, of not 32 bytes.
func TestEpochRefuses(t *testing.T) {
	refusesPairs(t, func(joiner, shared, context []byte, what ...any) {
		t.Helper()
		got, e := sched.Epoch(joiner, shared, context)
		isNoEpoch(t, got, e, what...)
	})
}

// P12.4, P12.6: another joiner, shared or context makes another epoch: all five secrets of all of them are others, and have 32 bytes.
func TestEpochTellsArguments(t *testing.T) {
	tellsPairs(t, func(joiner, shared, context []byte) ([][]byte, api.Errno) {
		return askEpoch([][]byte{joiner, shared, context})
	})
}

// P12.2, P12.4: of the same rows the secret of who joins isn't one of the epoch.
func TestEpochHasNoJoiner(t *testing.T) {
	for _, p := range somePairs() {
		joiner, _ := sched.Joiner(p[0], p[1], []byte{5})
		got, _ := sched.Epoch(p[0], p[1], []byte{5})
		for i, x := range parts(&got) {
			if bytes.Equal(*x, joiner) {
				t.Errorf("secret %d is that of who joins: %x", i, joiner)
			}
		}
	}
}
