package upgrade_test

import (
	"slices"
	"testing"

	"pyx/api"
	"pyx/upgrade"
)

// isMet asks for the greatest version that is in both rows, either way round; 0 where there is none.
func isMet(t *testing.T, l, m []int, want int) {
	t.Helper()
	e := api.OK
	if want == 0 {
		e = api.ErrVersion
	}
	for range 2 {
		wasL, wasM := slices.Clone(l), slices.Clone(m)
		if v, got := upgrade.Meet(l, m); v != want || got != e {
			t.Errorf("%v and %v: %d, %d; want %d, %d", l, m, v, got, want, e)
		}
		if !slices.Equal(l, wasL) || !slices.Equal(m, wasM) {
			t.Errorf("%v and %v: written into", wasL, wasM)
		}
		l, m = m, l
	}
}

// The section Examples.
func TestExamples(t *testing.T) { isMet(t, []int{1, 2, 3}, []int{2, 3, 4}, 3) }

// chosen is the versions of a set: 1, if its lowest bit is there, and so on.
func chosen(set int) []int {
	var out []int
	for _, v := range versions {
		if set>>(v-1)&1 > 0 {
			out = append(out, v)
		}
	}
	return out
}

// P16.4: all pairs of rows of versions, rising, falling, and with each one told twice: no row's order counts, nor how often it tells one.
func TestMeet(t *testing.T) {
	many := map[int]int{}
	for a := range 16 {
		for b := range 16 {
			l, m := chosen(a), chosen(b)
			want := 0
			for v, is := range []bool{1: a&b&1 > 0, 2: a&b&2 > 0, 3: a&b&4 > 0, 4: a&b&8 > 0} {
				if is {
					want = v
				}
			}
			many[want]++
			fallen := slices.Clone(m)
			slices.Reverse(fallen)
			isMet(t, l, m, want)
			isMet(t, l, fallen, want)
			isMet(t, append(slices.Clone(l), l...), m, want)
			isMet(t, l, append(slices.Clone(fallen), m...), want)
		}
	}
	// A fourth of the pairs have version 4 in both rows, a fourth of the others 3, and so on.
	if many[4] != 64 || many[3] != 48 || many[2] != 36 || many[1] != 27 || many[0] != 81 {
		t.Error(many)
	}
}

// P16.4: a row that tells a version twice doesn't tell it for the other one.
func TestMeetTwiceInOne(t *testing.T) {
	for _, v := range versions {
		for n := range 9 {
			isMet(t, slices.Repeat([]int{v}, n), nil, 0)
			isMet(t, slices.Repeat([]int{v}, n), []int{}, 0)
			isMet(t, slices.Repeat([]int{v}, n), []int{5 - v}, 0)
			isMet(t, slices.Repeat([]int{v}, n+1), []int{5 - v, v}, v)
		}
	}
}

// P16.4: numbers that are no versions are none, though they be in both rows, above or below those that are.
func TestMeetNoVersions(t *testing.T) {
	isMet(t, others, others, 0)
	isMet(t, others, versions, 0)
	for _, n := range others {
		isMet(t, []int{n}, []int{n}, 0)
		isMet(t, []int{n, n}, []int{n, 0, 5}, 0)
		isMet(t, []int{n, 1}, []int{n, 2}, 0)
		for _, v := range versions {
			isMet(t, []int{n, v}, []int{v, n}, v)
			isMet(t, []int{v, n, n}, []int{n, n, v}, v)
			isMet(t, []int{n}, []int{v}, 0)
		}
	}
	for _, v := range versions {
		for _, more := range []int{-1 << 63, 1 << 8, 1 << 16, 1 << 32, 1 << 62} {
			isMet(t, []int{v + more}, []int{v}, 0)
			isMet(t, []int{v + more}, []int{v + more}, 0)
			isMet(t, []int{-v}, []int{-v, v}, 0)
		}
	}
}

// P16.4: long rows.
func TestMeetLong(t *testing.T) {
	var l, m []int
	for n := range 1 << 20 {
		l, m = append(l, n+5), append(m, -n)
	}
	isMet(t, l, m, 0)
	isMet(t, l, l, 0)
	isMet(t, append(l, 1, 3, 2), append(m, 1, 4, 2), 2)
	isMet(t, append([]int{4}, l...), append(m, 4), 4)
	isMet(t, slices.Repeat([]int{3, 1}, 1<<19), slices.Repeat([]int{4, 2, 1}, 1<<19), 1)
}

// P16.4: drawn rows.
func TestMeetDrawn(t *testing.T) {
	d := draws(16)
	for range 3000 {
		rows := [2][]int{}
		seen := [2][16]int{}
		for k := range rows {
			for range d.below(6) {
				v := d.below(8) - 1
				rows[k] = append(rows[k], v)
				seen[k][v+1]++
			}
		}
		want := 4
		for want > 0 && (seen[0][want+1] == 0 || seen[1][want+1] == 0) {
			want--
		}
		isMet(t, rows[0], rows[1], want)
	}
}
