package pebble_test

import (
	"math"
	"slices"
	"testing"

	"backstep/api"
	"backstep/pebble"
)

func TestBennett(t *testing.T) {
	for _, c := range []struct {
		n, k int
		want []int
	}{
		{1, 2, []int{1}}, {2, 2, []int{1, 2, -1}}, {3, 2, []int{1, 2, -1, 3, 1, -2, -1}}, {4, 2, []int{1, 2, -1, 3, 4, -3, 1, -2, -1}}, {3, 3, []int{1, 2, 3, -2, -1}}, {3, 500, []int{1, 2, 3, -2, -1}},
		{5, 3, []int{1, 2, -1, 3, 4, -3, 5, 3, -4, -3, 1, -2, -1}},
	} {
		got, e := pebble.Bennett(c.n, c.k)
		if e != api.OK || !slices.Equal(got, c.want) {
			t.Error(c, got, e)
		}
	}
	for _, c := range [][2]int{{0, 2}, {-1, 2}, {501, 2}, {5, 1}, {5, 0}, {5, 501}} {
		if got, e := pebble.Bennett(c[0], c[1]); len(got) != 0 || e != api.ErrRange {
			t.Error(c, e)
		}
	}
	for _, n := range []int{1, 2, 3, 7, 16, 100, 499, 500} {
		for _, k := range []int{2, 3, 5, 500} {
			moves, e := pebble.Bennett(n, k)
			if i, ok := pebble.Legal(n, moves); e != api.OK || !ok || i != len(moves) {
				t.Error(n, k, i, e)
			}
			inverse := pebble.Inverse(moves)
			both := append(slices.Clone(moves), inverse...)
			if i, ok := pebble.Legal(n, both); i != len(both) || ok {
				t.Error("a sequence and its inverse", n, k)
			}
			if k == 500 && pebble.Peak(moves) != n {
				t.Error("peak", n, pebble.Peak(moves))
			}
		}
	}
	moves, _ := pebble.Bennett(4, 2)
	if pebble.Peak(moves) != 3 {
		t.Error(pebble.Peak(moves))
	}
}

func TestLegal(t *testing.T) {
	for _, c := range []struct {
		n     int
		moves []int
		at    int
		ok    bool
	}{
		{1, nil, 0, false}, {1, []int{1}, 1, true}, {0, nil, 0, false}, {-5, []int{1}, 0, false}, {0, []int{1}, 0, false}, {2, []int{1, 2}, 2, false}, {2, []int{1, 2, -1}, 3, true}, {2, []int{1}, 1, false},
		{2, []int{2}, 0, false}, {2, []int{1, 1}, 1, false}, {2, []int{-1}, 0, false}, {2, []int{1, 2, -1, -2}, 3, false}, {2, []int{1, 3}, 1, false}, {3, []int{1, 0}, 1, false}, {3, []int{1, 2, -1, 3, 1, -2, -1}, 7, true},
		{3, []int{1, math.MinInt}, 1, false}, {math.MaxInt, []int{1, math.MaxInt}, 1, false}, {math.MaxInt, []int{1, 2, -2}, 3, false}, {2, []int{1, 2, -1, 1}, 4, false}, {3, []int{1, 2, -1}, 3, false},
	} {
		if at, ok := pebble.Legal(c.n, c.moves); at != c.at || ok != c.ok {
			t.Error(c, at, ok)
		}
	}
}

func TestPeakAndInverse(t *testing.T) {
	for _, c := range []struct {
		moves []int
		peak  int
	}{{nil, 0}, {[]int{-1, -2, 5}, 0}, {[]int{0, 0}, 0}, {[]int{1, 1, -7, 9, 9, -1}, 3}, {[]int{1, -1, 1 << 31, -1 << 31}, 1}} {
		if got := pebble.Peak(c.moves); got != c.peak {
			t.Error(c, got)
		}
	}
	l := []int{1, -2, 0, 1 << 31}
	if got := pebble.Inverse(l); !slices.Equal(got, []int{-1 << 31, 0, 2, -1}) || l[0] != 1 {
		t.Error(got)
	}
}

func TestReach(t *testing.T) {
	for p, want := range map[int]int{-3: 0, 0: 0, 1: 1, 2: 2, 3: 4, 10: 512, 63: 1 << 62, 64: math.MaxInt, math.MaxInt: math.MaxInt, math.MinInt: 0} {
		if got := pebble.Reach(p); got != want {
			t.Error(p, got)
		}
	}
}

// brute returns the least shortest complete sequence by trying all sequences by length, in lexicographic order.
func brute(n, pebbles, length int) []int {
	moves := []int{}
	var try func() bool
	try = func() bool {
		if len(moves) == length {
			_, ok := pebble.Legal(n, moves)
			return ok
		}
		for m := -n; m <= n; m++ {
			moves = append(moves, m)
			if i, _ := pebble.Legal(n, moves); i == len(moves) && pebble.Peak(moves) <= pebbles && try() {
				return true
			}
			moves = moves[:len(moves)-1]
		}
		return false
	}
	if try() {
		return moves
	}
	return nil
}

func TestBest(t *testing.T) {
	if got, ok := pebble.Best(2, 2); !ok || !slices.Equal(got, []int{1, 2, -1}) {
		t.Error(got, ok)
	}
	for _, c := range [][2]int{{3, 2}, {0, 5}, {13, 13}, {-1, 3}, {1, 0}, {5, -1}, {5, 3}} {
		if got, ok := pebble.Best(c[0], c[1]); ok || len(got) != 0 {
			t.Error(c, got)
		}
	}
	for n := 1; n <= 5; n++ {
		for p := 1; p <= 5; p++ {
			got, ok := pebble.Best(n, p)
			if !ok {
				continue
			}
			for length := 0; length <= len(got) && length <= 9; length++ {
				want := brute(n, p, length)
				if length < len(got) && want != nil || length == len(got) && !slices.Equal(got, want) {
					t.Error(n, p, got, want)
				}
			}
		}
	}
	for n := 1; n <= 12; n++ {
		last := math.MaxInt
		for p := range 14 {
			got, ok := pebble.Best(n, p)
			if ok != (n <= pebble.Reach(p)) {
				t.Error(n, p, ok)
			}
			if !ok {
				continue
			}
			if i, complete := pebble.Legal(n, got); !complete || i != len(got) || pebble.Peak(got) > p || len(got) > last {
				t.Error(n, p, got)
			}
			last = len(got)
		}
	}
}
