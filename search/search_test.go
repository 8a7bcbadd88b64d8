package search_test

import (
	"maps"
	"testing"

	"backstep/api"
	"backstep/enumerate"
	"backstep/parser"
	"backstep/search"
	"backstep/state"
)

var (
	x = []api.VarDecl{{Name: "x", Kind: api.Int}}
	b = enumerate.Box{Value: 2}
)

func parse(t *testing.T, s string) api.Program {
	t.Helper()
	p, pos, e := parser.Program(s)
	if e != api.OK {
		t.Fatalf("%q: %d, %d", s, pos, e)
	}
	return p
}

func one(v int) api.State { return api.State{Cells: [][]int{{v}}} }

func TestFirst(t *testing.T) {
	var seen []int
	s, n, ok := search.First(x, b, func(s api.State) bool {
		v := s.Cells[0][0]
		seen = append(seen, v)
		s.Cells[0][0] = 99
		s.Cells[0] = nil
		return v == -1
	})
	if !state.Equal(s, one(-1)) || n != 3 || !ok || len(seen) != 3 || seen[0] != 0 || seen[1] != 1 {
		t.Error(s, n, ok, seen)
	}
	s, n, ok = search.First(x, b, func(s api.State) bool { return false })
	if !state.Equal(s, api.State{}) || n != 5 || ok {
		t.Error(s, n, ok)
	}
	if s, n, ok := search.First(x, b, nil); !state.Equal(s, api.State{}) || n != 0 || ok {
		t.Error("nil test", s, n, ok)
	}
	if _, n, ok := search.First(x, enumerate.Box{Value: -1}, func(s api.State) bool { return true }); n != 0 || ok {
		t.Error("invalid box", n, ok)
	}
}

const example = "int x main { if x == 1 { x += 1; } else { } fi x == 2; }"

func TestFailing(t *testing.T) {
	p := parse(t, example)
	if s, ok := search.Failing(p, api.ErrAssert, b, 10); !ok || !state.Equal(s, one(2)) {
		t.Error(s, ok)
	}
	if s, ok := search.Failing(p, api.OK, b, 10); !ok || !state.Equal(s, one(0)) {
		t.Error(s, ok)
	}
	if s, ok := search.Failing(p, api.ErrFuel, b, 2); !ok || !state.Equal(s, one(1)) {
		t.Error(s, ok)
	}
	if s, ok := search.Failing(p, api.ErrDivide, b, 10); ok || !state.Equal(s, api.State{}) {
		t.Error(s, ok)
	}
	if s, ok := search.Failing(p, api.ErrAssert, enumerate.Box{Value: 1}, 10); ok {
		t.Error(s)
	}
}

func TestDiffer(t *testing.T) {
	p := parse(t, "int x main { x += x * x; }")
	q := parse(t, "int x main { x += x; }")
	r := parse(t, "int x main { x += 0; x += x; }")
	fails := parse(t, "int x main { x += x / x * x; }")
	for _, c := range []struct {
		p, q api.Program
		fuel int
		want int
	}{{p, q, 10, -1}, {q, r, 10, 99}, {q, r, 1, 0}, {q, r, 0, 99}, {p, fails, 10, 0}, {p, p, 10, 99}, {fails, fails, 10, 99}} {
		for _, pair := range [][2]api.Program{{c.p, c.q}, {c.q, c.p}} {
			s, ok := search.Differ(pair[0], pair[1], b, c.fuel)
			if ok != (c.want != 99) || ok && !state.Equal(s, one(c.want)) || !ok && !state.Equal(s, api.State{}) {
				t.Error(c, s, ok)
			}
		}
	}
	for _, other := range []string{"int y main { y += 1; }", "stack x main { }", "int x int y main { }", "array x[1] main { x[0] += 1; }"} {
		if s, ok := search.Differ(p, parse(t, other), b, 10); ok {
			t.Error(other, s)
		}
	}
}

func TestOutcomes(t *testing.T) {
	p := parse(t, example)
	if got := search.Outcomes(p, b, 10); !maps.Equal(got, map[api.Errno]int{api.OK: 4, api.ErrAssert: 1}) {
		t.Error(got)
	}
	if got := search.Outcomes(p, b, 2); !maps.Equal(got, map[api.Errno]int{api.OK: 3, api.ErrAssert: 1, api.ErrFuel: 1}) {
		t.Error(got)
	}
	if got := search.Outcomes(p, enumerate.Box{Value: 2000}, 10); len(got) != 0 {
		t.Error(got)
	}
	q := parse(t, "int x stack s main { push x, s; pop x, s; read x; }")
	total := 0
	for _, n := range search.Outcomes(q, enumerate.Box{Value: 1, Length: 2, Input: 1}, 10) {
		total += n
	}
	if count, _ := enumerate.Count(q.Vars, enumerate.Box{Value: 1, Length: 2, Input: 1}); total != count {
		t.Error(total, count)
	}
}
