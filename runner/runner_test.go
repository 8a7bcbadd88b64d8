package runner_test

import (
	"slices"
	"testing"

	"backstep/api"
	"backstep/parser"
	"backstep/runner"
	"backstep/state"
	"backstep/store"
)

func TestExecute(t *testing.T) {
	p, _, e := parser.Program("int x proc f(int y) { y += 1; } proc g(int y) { call f(y); uncall f(y); } main { if x == 0 { call g(x); } else { } fi x == 0; x += 2; }")
	if e != api.OK {
		t.Fatal(e)
	}
	zero := api.State{Cells: [][]int{{0}}}
	var changes []bool
	var values []int
	after := func(st *store.Store, basic bool) {
		changes = append(changes, basic)
		values = append(values, st.State().Cells[0][0])
	}
	o, e := runner.Execute(p, zero, runner.Options{Fuel: 11, After: after})
	if e != api.OK || o.Steps != 11 || o.State.Cells[0][0] != 2 || !slices.Equal(o.Entered, []int{2, 1}) || zero.Cells[0][0] != 0 {
		t.Error(o, e)
	}
	if !slices.Equal(values, []int{0, 0, 0, 1, 1, 1, 0, 0, 0, 0, 2}) || !slices.Equal(changes, []bool{false, false, false, true, false, false, true, false, false, false, true}) {
		t.Error(values, changes)
	}
	two := api.State{Cells: [][]int{{2}}}
	if o, e := runner.Execute(p, two, runner.Options{Fuel: 11, Backward: true}); e != api.OK || o.Steps != 11 || !state.Equal(o.State, zero) {
		t.Error(o, e)
	}
	if o, e := runner.Execute(p, zero, runner.Options{Fuel: 10}); e != api.ErrFuel || o.Steps != 0 || len(o.Entered) != 0 {
		t.Error(o, e)
	}
	if _, e := runner.Execute(p, api.State{}, runner.Options{Fuel: 10}); e != api.ErrState {
		t.Error(e)
	}
}
