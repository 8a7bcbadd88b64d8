package eval_test

import (
	"slices"
	"testing"

	"backstep/api"
	"backstep/constfold"
	"backstep/eval"
	"backstep/parser"
)

func lookup(name string) ([]int, bool) {
	cells := map[string][]int{"x": {3}, "y": {-4}, "a": {5, 7}, "s": {1, 2, 9}, "e": {}, "m": {-1 << 63}}
	cell, ok := cells[name]
	return cell, ok
}

func expr(t *testing.T, s string) api.Node {
	t.Helper()
	n, _, e := parser.Expr(s)
	if e != api.OK {
		t.Fatal(s, e)
	}
	return n
}

func TestValues(t *testing.T) {
	for s, want := range map[string]int{
		"12": 12, "x": 3, "-x": -3, "!x": 0, "!(x - 3)": 1, "a[x - 2] * 2": 14, "a[0]": 5, "top(s)": 9, "size(s)": 3, "size(e)": 0, "size(x)": 1, "top(a)": 7,
		"x + y * 2": -5, "x - y": 7, "y / x": -1, "y % x": -1, "x & 6": 2, "x | 4": 7, "x ^ 1": 2, "x == 3": 1, "x != 3": 0, "x < y": 0, "y <= -4": 1,
		"x > y": 1, "x >= 4": 0, "x && y": 1, "x && 0": 0, "0 || y": 1, "-m": -1 << 63, "m / -1": -1 << 63, "m - 1": 1<<63 - 1, "a[a[0] - 4]": 7, "s[2]": 9, "x[0]": 3,
	} {
		n := expr(t, s)
		if v, e := eval.Expr(n, lookup); v != want || e != api.OK {
			t.Errorf("%q: %d, %d", s, v, e)
		}
		if b, e := eval.Test(n, lookup); b != (want != 0) || e != api.OK {
			t.Errorf("%q: %v, %d", s, b, e)
		}
	}
}

func TestErrors(t *testing.T) {
	for s, want := range map[string]api.Errno{
		"z": api.ErrName, "a": api.ErrType, "e": api.ErrType, "z[1 / 0]": api.ErrName, "a[1 / 0]": api.ErrDivide, "a[x]": api.ErrIndex, "a[-1]": api.ErrIndex, "a[2]": api.ErrIndex,
		"e[0]": api.ErrIndex, "top(z)": api.ErrName, "top(e)": api.ErrEmpty, "size(z)": api.ErrName, "x / (x - 3)": api.ErrDivide, "x % 0": api.ErrDivide,
		"0 && 1 / 0": api.ErrDivide, "1 || z": api.ErrName, "z + 1 / 0": api.ErrName, "1 / 0 + z": api.ErrDivide, "-z": api.ErrName, "!top(e)": api.ErrEmpty, "a[9] + top(e)": api.ErrIndex,
		"z / 0": api.ErrName,
	} {
		n := expr(t, s)
		if v, e := eval.Expr(n, lookup); v != 0 || e != want {
			t.Errorf("%q: %d, %d", s, v, e)
		}
		if b, e := eval.Test(n, lookup); b || e != want {
			t.Errorf("%q: %v, %d", s, b, e)
		}
	}
}

func TestInvalidArguments(t *testing.T) {
	bad := api.Node{Kind: api.Add}
	if v, e := eval.Expr(bad, nil); v != 0 || e != api.ErrArg {
		t.Error(v, e)
	}
	if v, e := eval.Expr(bad, lookup); v != 0 || e != api.ErrForm {
		t.Error(v, e)
	}
	if v, e := eval.Test(expr(t, "1"), nil); v || e != api.ErrArg {
		t.Error(v, e)
	}
	if v, e := eval.Test(bad, lookup); v || e != api.ErrForm {
		t.Error(v, e)
	}
	if v, e := eval.Index(bad, nil); v != 0 || e != api.ErrArg {
		t.Error(v, e)
	}
	if v, e := eval.Index(expr(t, "1"), lookup); v != 0 || e != api.ErrForm {
		t.Error(v, e)
	}
	if v, e := eval.Index(api.Node{Kind: api.Item, Name: "a", Kids: []api.Node{bad}}, lookup); v != 0 || e != api.ErrForm {
		t.Error(v, e)
	}
}

func TestIndex(t *testing.T) {
	for s, want := range map[string]int{"x": 0, "z": 0, "a[1]": 1, "a[x * 5]": 15, "z[-7]": -7} {
		if v, e := eval.Index(expr(t, s), lookup); v != want || e != api.OK {
			t.Errorf("%q: %d, %d", s, v, e)
		}
	}
	for s, want := range map[string]api.Errno{"a[z]": api.ErrName, "z[1 / 0]": api.ErrDivide, "a[a[2]]": api.ErrIndex} {
		if v, e := eval.Index(expr(t, s), lookup); v != 0 || e != want {
			t.Errorf("%q: %d, %d", s, v, e)
		}
	}
}

func TestOrderOfLookups(t *testing.T) {
	var order []string
	at := func(name string) ([]int, bool) {
		if !slices.Contains(order, name) {
			order = append(order, name)
		}
		return lookup(name)
	}
	eval.Expr(expr(t, "x + a[y + 5] * top(s) - x"), at)
	if !slices.Equal(order, []string{"x", "a", "y", "s"}) {
		t.Error(order)
	}
	order = nil
	eval.Index(expr(t, "a[x]"), at)
	if !slices.Equal(order, []string{"x"}) {
		t.Error("the variable itself is not looked up", order)
	}
}

func TestAgreesWithConstfold(t *testing.T) {
	for _, s := range []string{"1 - 4 * 3", "7 / 0", "!-(2 < 3)", "9223372036854775807 + 1", "5 % (3 - 3)", "1 && 0 || 2"} {
		v, e := eval.Expr(expr(t, s), lookup)
		c, ok := constfold.Const(expr(t, s))
		if ok != (e == api.OK) || v != c {
			t.Errorf("%q: %d, %d", s, v, c)
		}
	}
}
