package arith_test

import (
	"math"
	"testing"

	"backstep/api"
	"backstep/arith"
)

func TestApplyOrdinary(t *testing.T) {
	for _, c := range []struct {
		op         byte
		x, y, want int
	}{
		{api.Add, 2, 3, 5}, {api.Sub, 2, 3, -1}, {api.Mul, -2, 3, -6},
		{api.Div, -7, 2, -3}, {api.Div, 7, 2, 3}, {api.Mod, -7, 2, -1}, {api.Mod, 7, -2, 1},
		{api.And, -1, 6, 6}, {api.Or, 1, 6, 7}, {api.Xor, 5, 6, 3},
		{api.Eq, 1, 1, 1}, {api.Eq, 1, 2, 0}, {api.Ne, 1, 2, 1}, {api.Ne, 2, 2, 0},
		{api.Lt, 1, 2, 1}, {api.Lt, 2, 2, 0}, {api.Le, 2, 2, 1}, {api.Le, 3, 2, 0},
		{api.Gt, 3, 2, 1}, {api.Gt, 2, 2, 0}, {api.Ge, 2, 2, 1}, {api.Ge, 1, 2, 0},
		{api.Both, 5, -1, 1}, {api.Both, 0, -1, 0}, {api.Both, 5, 0, 0}, {api.Both, 0, 0, 0},
		{api.Either, 5, 0, 1}, {api.Either, 0, -5, 1}, {api.Either, 0, 0, 0}, {api.Either, 2, 4, 1},
	} {
		if v, e := arith.Apply(c.op, c.x, c.y); v != c.want || e != api.OK {
			t.Errorf("Apply(%d, %d, %d) = %d, %d", c.op, c.x, c.y, v, e)
		}
	}
}

func TestApplyWraps(t *testing.T) {
	for _, c := range []struct {
		op         byte
		x, y, want int
	}{
		{api.Add, math.MaxInt, 1, math.MinInt}, {api.Sub, math.MinInt, 1, math.MaxInt},
		{api.Mul, math.MinInt, -1, math.MinInt}, {api.Div, math.MinInt, -1, math.MinInt},
		{api.Mod, math.MinInt, -1, 0},
	} {
		if v, e := arith.Apply(c.op, c.x, c.y); v != c.want || e != api.OK {
			t.Errorf("Apply(%d, %d, %d) = %d, %d", c.op, c.x, c.y, v, e)
		}
	}
}

func TestApplyErrors(t *testing.T) {
	for _, op := range []byte{api.Div, api.Mod} {
		if v, e := arith.Apply(op, 1, 0); v != 0 || e != api.ErrDivide {
			t.Errorf("operator %d by zero: %d, %d", op, v, e)
		}
	}
	for k := 0; k < 256; k++ {
		op := byte(k)
		v, e := arith.Apply(op, 4, 2)
		if binary := op >= api.Add && op <= api.Either; binary != (e == api.OK) || !binary && (e != api.ErrType || v != 0) {
			t.Errorf("kind %d: %d, %d", op, v, e)
		}
	}
}

func TestUnary(t *testing.T) {
	for _, c := range []struct {
		op      byte
		x, want int
	}{{api.Neg, 3, -3}, {api.Neg, math.MinInt, math.MinInt}, {api.Not, 0, 1}, {api.Not, -4, 0}} {
		if v, e := arith.Unary(c.op, c.x); v != c.want || e != api.OK {
			t.Errorf("Unary(%d, %d) = %d, %d", c.op, c.x, v, e)
		}
	}
	for _, op := range []byte{0, api.Add, api.Size, api.Plus, 255} {
		if v, e := arith.Unary(op, 1); v != 0 || e != api.ErrType {
			t.Errorf("Unary(%d): %d, %d", op, v, e)
		}
	}
	if arith.Truth(0) != 0 || arith.Truth(7) != 1 || arith.Truth(-7) != 1 {
		t.Error("Truth")
	}
}

func TestUpdateAndInverse(t *testing.T) {
	numbers := []int{0, 1, -1, 5, 1 << 40, math.MaxInt, math.MinInt}
	for kind := 0; kind < 256; kind++ {
		u := byte(kind)
		v, ok := arith.Inverse(u)
		_, e := arith.Update(u, 1, 1)
		if update := u >= api.Plus && u <= api.Flip; ok != update || !ok && (v != 0 || e != api.ErrType) {
			t.Fatalf("kind %d: %d %v %d", u, v, ok, e)
		}
		for _, y := range numbers {
			seen := map[int]bool{}
			for _, x := range numbers {
				z, e := arith.Update(u, x, y)
				if !ok {
					if z != 0 || e != api.ErrType {
						t.Fatalf("kind %d: %d", u, z)
					}
					continue
				}
				back, e2 := arith.Update(v, z, y)
				if e != api.OK || e2 != api.OK || back != x || seen[z] {
					t.Errorf("update %d of %d by %d: %d, back %d", u, x, y, z, back)
				}
				seen[z] = true
			}
		}
	}
	for _, c := range []struct {
		kind byte
		want int
		inv  byte
	}{{api.Plus, 8, api.Minus}, {api.Minus, -2, api.Plus}, {api.Flip, 6, api.Flip}} {
		v, _ := arith.Update(c.kind, 3, 5)
		inv, _ := arith.Inverse(c.kind)
		if v != c.want || inv != c.inv {
			t.Errorf("kind %d: %d, %d", c.kind, v, inv)
		}
	}
}

func TestSymbolsAndLevels(t *testing.T) {
	type row struct {
		symbol string
		level  int
	}
	want := map[byte]row{
		api.Either: {"||", 1}, api.Both: {"&&", 2}, api.Or: {"|", 3}, api.Xor: {"^", 4}, api.And: {"&", 5},
		api.Eq: {"==", 6}, api.Ne: {"!=", 6}, api.Lt: {"<", 6}, api.Le: {"<=", 6}, api.Gt: {">", 6}, api.Ge: {">=", 6},
		api.Add: {"+", 7}, api.Sub: {"-", 7}, api.Mul: {"*", 8}, api.Div: {"/", 8}, api.Mod: {"%", 8},
		api.Neg: {"-", 9}, api.Not: {"!", 9}, api.Plus: {"+=", 0}, api.Minus: {"-=", 0}, api.Flip: {"^=", 0},
	}
	for k := 0; k < 256; k++ {
		op := byte(k)
		if got := (row{arith.Symbol(op), arith.Level(op)}); got != want[op] {
			t.Errorf("kind %d: %v", op, got)
		}
	}
}

func TestOperators(t *testing.T) {
	l := arith.Operators()
	for i, op := range l {
		if op != api.Add+byte(i) {
			t.Errorf("operator %d is %d", i, op)
		}
	}
	l[0] = 0
	if again := arith.Operators(); len(again) != 16 || again[0] != api.Add {
		t.Error("Operators must return a new slice")
	}
}
