package sched_test

import (
	"bytes"
	"slices"
	"sync"
	"testing"
	"unsafe"

	"pyx/api"
	"pyx/mac"
	"pyx/sched"
)

// The section Examples.
func TestExamples(t *testing.T) {
	isRow(t, sched.Shared(nil), api.OK, make([]byte, 32))
}

// holder is what a member holds of a group: how far it is, its epoch's secrets, and the log.
type holder struct {
	number int
	epoch  api.Epoch
	log    []byte
}

// next is a holder in the next epoch, and the secret of who joins it.
func (h holder) next(t *testing.T, tree, last, told []byte, shared [][]byte) (holder, []byte) {
	t.Helper()
	log, e := sched.Log(h.log, h.epoch.Confirm, told)
	isRow(t, log, e, logOf(h.log, h.epoch.Confirm, told))
	context, e := sched.Context([]byte("group"), h.number+1, tree, log)
	isRow(t, context, e, contextOf([]byte("group"), h.number+1, tree, log))
	joiner, e := sched.Joiner(h.epoch.Init, last, context)
	isRow(t, joiner, e, joinerOf(h.epoch.Init, last, context))
	return joined(t, h.number+1, tree, log, joiner, shared), joiner
}

// joined is a holder in an epoch, of the secret of who joins it.
func joined(t *testing.T, number int, tree, log, joiner []byte, shared [][]byte) holder {
	t.Helper()
	context, e := sched.Context([]byte("group"), number, tree, log)
	isRow(t, context, e, contextOf([]byte("group"), number, tree, log))
	epoch, e := sched.Epoch(joiner, sched.Shared(shared), context)
	isEpoch(t, epoch, e, epochOf(joiner, sharedOf(shared), context))
	return holder{number: number, epoch: epoch, log: log}
}

// isSameHolder asks whether two are in the same epoch: their secrets, and what they prove and export.
func isSameHolder(t *testing.T, a, b holder, want bool) {
	t.Helper()
	isSame(t, a.epoch, b.epoch, want, a.number)
	proof, e := sched.Proof(a.epoch, a.log)
	isRow(t, proof, e, tagOf(a.epoch.Confirm, a.log))
	other, _ := sched.Proof(b.epoch, b.log)
	own, e := sched.Export(a.epoch, "call", a.log, 16)
	isRow(t, own, e, exportOf(a.epoch, "call", a.log, 16))
	theirs, _ := sched.Export(b.epoch, "call", b.log, 16)
	if mac.Same(proof, other) != want || mac.Same(own, theirs) != want {
		t.Errorf("epoch %d: proofs %x, %x, exported %x, %x; want the same: %v", a.number, proof, other, own, theirs, want)
	}
}

// P12.6: through drawn histories, who goes on with the same, and who joins by the secret that is told, are in the same epoch, whose secrets are right; and none of these was there before.
func TestHistories(t *testing.T) {
	for seed := range 10 {
		d := draws(seed)
		first, _ := sched.Epoch(d.row(32), sched.Shared(nil), nil)
		one := holder{epoch: first, log: make([]byte, 32)}
		two := holder{epoch: cloned(first), log: make([]byte, 32)}
		seen := map[string]int{}
		for number := 1; number <= 30; number++ {
			tree, last, told := d.row(32), d.row(32), d.row(d.below(200))
			var shared [][]byte
			for range d.below(4) {
				shared = append(shared, d.row(d.below(80)))
			}
			joiner := []byte(nil)
			one, joiner = one.next(t, tree, last, told, shared)
			two, _ = two.next(t, bytes.Clone(tree), bytes.Clone(last), bytes.Clone(told), slices.Clone(shared))
			isSameHolder(t, one, two, true)
			three := joined(t, number, tree, one.log, joiner, shared)
			isSameHolder(t, one, three, true)
			for _, x := range parts(&one.epoch) {
				if len(*x) != 32 {
					t.Errorf("epoch %d: %d bytes", number, len(*x))
				}
				seen[string(*x)]++
			}
		}
		if len(seen) != 150 {
			t.Errorf("history %d: %d secrets; want 150", seed, len(seen))
		}
	}
}

// P12.6: who goes on with something else is in another epoch, and stays in another one, even if all later is the same.
func TestOtherHistories(t *testing.T) {
	first, _ := sched.Epoch(full(32), sched.Shared(nil), nil)
	start := holder{epoch: first, log: make([]byte, 32)}
	of := func(tree, last, told []byte, shared [][]byte) holder {
		h, _ := start.next(t, tree, last, told, shared)
		return h
	}
	want := of(counted(32, 1), counted(32, 2), []byte{3}, [][]byte{{4}})
	for i, other := range []holder{
		of(counted(32, 5), counted(32, 2), []byte{3}, [][]byte{{4}}),
		of(counted(32, 1), counted(32, 5), []byte{3}, [][]byte{{4}}),
		of(counted(32, 1), counted(32, 2), []byte{5}, [][]byte{{4}}),
		of(counted(32, 1), counted(32, 2), nil, [][]byte{{4}}),
		of(counted(32, 1), counted(32, 2), []byte{3}, [][]byte{{5}}),
		of(counted(32, 1), counted(32, 2), []byte{3}, nil),
		of(counted(32, 1), counted(32, 2), []byte{3}, [][]byte{{4}, {4}}),
	} {
		mine := want
		for k := range 5 {
			isSameHolder(t, mine, other, false)
			mine, _ = mine.next(t, counted(32, k), counted(32, 2*k), []byte{3}, nil)
			other, _ = other.next(t, counted(32, k), counted(32, 2*k), []byte{3}, nil)
		}
		if i == 0 {
			again := of(counted(32, 1), counted(32, 2), []byte{3}, [][]byte{{4}})
			isSameHolder(t, want, again, true)
		}
	}
}

// P12.2, P12.4, P12.5: what has more bytes than a row may have has no row; nor has a label that has so with what stands ahead of it.
func TestLongRows(t *testing.T) {
	// What is refused isn't copied, and memory that nobody writes into is none; so it is with a string, if that isn't a copy either.
	zeros := make([]byte, api.MaxLen+1)
	got, e := sched.Joiner(full(32), full(32), zeros)
	isRefused(t, got, e, "Joiner")
	epoch, e := sched.Epoch(full(32), full(32), zeros)
	isNoEpoch(t, epoch, e, "Epoch")
	got, e = sched.Log(full(32), zeros, nil)
	isRefused(t, got, e, "Log's confirm")
	got, e = sched.Log(full(32), nil, zeros)
	isRefused(t, got, e, "what Log goes over")
	got, e = sched.Export(someEpoch(1), unsafe.String(&zeros[0], api.MaxLen-7), nil, 32)
	isRefused(t, got, e, "Export's label")
}

// call is one of the package's: the rows that it is handed, and what it answers of them.
type call struct {
	rows [][]byte
	ask  func(rows [][]byte) ([][]byte, api.Errno)
}

// epochOfRows is an epoch of five rows, that are its memory.
func epochOfRows(rows [][]byte) api.Epoch {
	return api.Epoch{Init: rows[0], Send: rows[1], Export: rows[2], Confirm: rows[3], Resume: rows[4]}
}

// calls are all of the package's that answer rows.
func calls() map[string]call {
	one := func(b []byte, e api.Errno) ([][]byte, api.Errno) { return [][]byte{b}, e }
	secrets := [][]byte{counted(32, 1), counted(32, 2), counted(32, 3), counted(32, 4), counted(32, 5)}
	return map[string]call{
		"Context":                  {[][]byte{counted(9, 1), counted(32, 2), counted(32, 3)}, func(r [][]byte) ([][]byte, api.Errno) { return one(sched.Context(r[0], 5, r[1], r[2])) }},
		"Context of a long group":  {[][]byte{counted(255, 1), counted(32, 2), counted(32, 3)}, func(r [][]byte) ([][]byte, api.Errno) { return one(sched.Context(r[0], 5, r[1], r[2])) }},
		"Joiner":                   {[][]byte{counted(32, 1), counted(32, 2), counted(80, 3)}, func(r [][]byte) ([][]byte, api.Errno) { return one(sched.Joiner(r[0], r[1], r[2])) }},
		"Joiner without context":   {[][]byte{counted(32, 1), counted(32, 2)}, func(r [][]byte) ([][]byte, api.Errno) { return one(sched.Joiner(r[0], r[1], nil)) }},
		"Shared of none":           {nil, func(r [][]byte) ([][]byte, api.Errno) { return one(sched.Shared(r), api.OK) }},
		"Shared":                   {[][]byte{counted(32, 1), {}, counted(65, 2), counted(1, 3)}, func(r [][]byte) ([][]byte, api.Errno) { return one(sched.Shared(r), api.OK) }},
		"Log":                      {[][]byte{counted(32, 1), counted(32, 2), counted(300, 3)}, func(r [][]byte) ([][]byte, api.Errno) { return one(sched.Log(r[0], r[1], r[2])) }},
		"Log of nothing":           {[][]byte{counted(32, 1), {}, {}}, func(r [][]byte) ([][]byte, api.Errno) { return one(sched.Log(r[0], r[1], r[2])) }},
		"Proof":                    {append(slices.Clone(secrets), counted(32, 6)), func(r [][]byte) ([][]byte, api.Errno) { return one(sched.Proof(epochOfRows(r), r[5])) }},
		"Export":                   {append(slices.Clone(secrets), counted(70, 6)), func(r [][]byte) ([][]byte, api.Errno) { return one(sched.Export(epochOfRows(r), "call", r[5], 70)) }},
		"Export of no byte":        {append(slices.Clone(secrets), counted(70, 6)), func(r [][]byte) ([][]byte, api.Errno) { return one(sched.Export(epochOfRows(r), "", r[5], 0)) }},
		"Export of 32 bytes":       {append(slices.Clone(secrets), counted(32, 6)), func(r [][]byte) ([][]byte, api.Errno) { return one(sched.Export(epochOfRows(r), "", r[5], 32)) }},
		"Epoch":                    {[][]byte{counted(32, 1), counted(32, 2), counted(80, 3)}, askEpoch},
		"Epoch of a short context": {[][]byte{counted(32, 1), counted(32, 2), {}}, askEpoch},
	}
}

// askEpoch asks for an epoch's secrets.
func askEpoch(rows [][]byte) ([][]byte, api.Errno) {
	got, e := sched.Epoch(rows[0], rows[1], rows[2])
	var out [][]byte
	for _, x := range parts(&got) {
		out = append(out, *x)
	}
	return out, e
}

// clonedAll is rows that share no memory with others.
func clonedAll(rows [][]byte) [][]byte {
	out := slices.Clone(rows)
	for i := range out {
		out[i] = bytes.Clone(out[i])
	}
	return out
}

// spaced is rows in memory in which each has bytes ahead of it and behind it, and all of that memory.
func spaced(rows [][]byte) ([][]byte, []byte) {
	memory := full(100)
	var from []int
	for _, row := range rows {
		from = append(from, len(memory))
		memory = slices.Concat(memory, row, full(100))
	}
	out := slices.Clone(rows)
	for i := range out {
		out[i] = memory[from[i] : from[i]+len(rows[i])]
	}
	return out, memory
}

// R3: what is handed in stays as it was, with what lies behind it in the same memory, whether it is taken or refused.
func TestHandedInStays(t *testing.T) {
	for name, c := range calls() {
		rows, memory := spaced(c.rows)
		was := bytes.Clone(memory)
		c.ask(rows)
		for i, row := range rows {
			less := slices.Clone(rows)
			less[i] = row[:len(row)/2]
			c.ask(less)
		}
		if !bytes.Equal(memory, was) || !slices.EqualFunc(rows, c.rows, bytes.Equal) {
			t.Errorf("%s: written into, ahead or behind", name)
		}
	}
}

// R3: so do the epochs that are compared.
func TestComparedStay(t *testing.T) {
	all := calls()["Proof"].rows[:5]
	a, memory := spaced(all)
	b, others := spaced(all)
	b[2][7] ^= 1
	was, were := bytes.Clone(memory), bytes.Clone(others)
	sched.Same(epochOfRows(a), epochOfRows(b))
	sched.Same(epochOfRows(a), epochOfRows(a))
	if !bytes.Equal(memory, was) || !bytes.Equal(others, were) {
		t.Error("written into, ahead or behind")
	}
}

// R3, R4: who writes into an answer, or behind it, or into what was handed in, changes no other.
func TestNothingShared(t *testing.T) {
	for name, c := range calls() {
		rows := clonedAll(c.rows)
		first, e := c.ask(rows)
		want := clonedAll(first)
		for i, row := range first {
			clear(row[:cap(row)])
			for k := range first {
				if k > i && !bytes.Equal(first[k], want[k]) {
					t.Errorf("%s: answers %d and %d share memory", name, i, k)
				}
			}
		}
		if e != api.OK || !slices.EqualFunc(rows, c.rows, bytes.Equal) {
			t.Errorf("%s: who writes into an answer writes into what was handed in (%d)", name, e)
		}
		second, _ := c.ask(rows)
		for _, row := range rows {
			clear(row[:cap(row)])
		}
		clear(rows)
		if !slices.EqualFunc(second, want, bytes.Equal) {
			t.Errorf("%s: then %x; want %x", name, second, want)
		}
	}
}

// R4: what is asked at the same time is answered as what is asked alone.
func TestAtTheSameTime(t *testing.T) {
	for name, c := range calls() {
		want, _ := c.ask(c.rows)
		var all sync.WaitGroup
		for range 16 {
			all.Go(func() {
				for range 10 {
					if got, e := c.ask(c.rows); e != api.OK || !slices.EqualFunc(got, want, bytes.Equal) {
						t.Errorf("%s: %x, %d; want %x", name, got, e, want)
					}
				}
			})
		}
		all.Wait()
	}
}
