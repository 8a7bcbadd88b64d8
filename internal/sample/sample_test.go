package sample_test

import (
	"testing"

	"backstep/api"
	"backstep/ast"
	"backstep/checker"
	"backstep/internal/sample"
	"backstep/interp"
	"backstep/state"
)

func TestProgramsAreAcceptedAndVaried(t *testing.T) {
	ended := map[api.Errno]int{}
	for seed := range 3000 {
		p := sample.Program(seed)
		if !checker.OK(p) {
			t.Fatalf("program %d: %v", seed, checker.Check(p))
		}
		if !ast.Same(p, sample.Program(seed)) {
			t.Fatal("a program depends on its seed only")
		}
		s := sample.State(seed)
		if !state.Fits(p.Vars, s) {
			t.Fatal("state", s)
		}
		ended[interp.Forward(p, s, 10000).Err]++
	}
	for _, e := range []api.Errno{api.OK, api.ErrDivide, api.ErrEmpty, api.ErrClear, api.ErrAssert, api.ErrLocal, api.ErrTape} {
		if ended[e] < 10 {
			t.Errorf("error %d occurs %d times", e, ended[e])
		}
	}
}
