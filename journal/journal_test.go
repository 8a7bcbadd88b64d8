package journal_test

import (
	"slices"
	"testing"

	"backstep/api"
	"backstep/journal"
)

// list records functions that append their numbers.
func list(j *journal.Journal, numbers ...int) *[]int {
	called := &[]int{}
	for _, n := range numbers {
		j.Record(func() { *called = append(*called, n) })
	}
	return called
}

func TestRecord(t *testing.T) {
	var j journal.Journal
	if j.Len() != 0 {
		t.Error("zero journal")
	}
	j.Record(nil)
	list(&j, 1, 2)
	if j.Len() != 2 {
		t.Error(j.Len())
	}
}

func TestRewind(t *testing.T) {
	var j journal.Journal
	called := list(&j, 1, 2, 3, 4)
	for _, n := range []int{-1, 5} {
		if j.Rewind(n) != api.ErrRange || j.Forget(n) != api.ErrRange || j.Len() != 4 {
			t.Error("out of range", n)
		}
	}
	if j.Rewind(4) != api.OK || len(*called) != 0 {
		t.Error("nothing to rewind")
	}
	if j.Rewind(2) != api.OK || !slices.Equal(*called, []int{4, 3}) || j.Len() != 2 {
		t.Error(*called)
	}
	if j.Rewind(0) != api.OK || !slices.Equal(*called, []int{4, 3, 2, 1}) || j.Len() != 0 {
		t.Error(*called)
	}
}

func TestForget(t *testing.T) {
	var j journal.Journal
	called := list(&j, 1, 2, 3)
	if j.Forget(3) != api.OK || j.Forget(1) != api.OK || j.Len() != 1 || len(*called) != 0 {
		t.Error(*called)
	}
	list(&j, 7)
	j.Rewind(0)
	if !slices.Equal(*called, []int{1}) {
		t.Error(*called)
	}
}

func TestWhileUndoing(t *testing.T) {
	var j journal.Journal
	var lengths []int
	note := func() {
		lengths = append(lengths, j.Len())
		j.Record(func() { t.Error("recorded while undoing") })
		if j.Rewind(0) != api.ErrState || j.Forget(0) != api.ErrState {
			t.Error("the journal is busy")
		}
	}
	j.Record(note)
	j.Record(note)
	if j.Rewind(0) != api.OK || !slices.Equal(lengths, []int{1, 0}) {
		t.Error(lengths)
	}
	j.Record(func() {})
	if j.Len() != 1 {
		t.Error("recording works again")
	}
}

func TestAttempt(t *testing.T) {
	var j journal.Journal
	before := list(&j, 1)
	count := 0
	e := journal.Attempt(&j, func() {
		count++
		j.Record(func() { count-- })
	})
	if e != api.OK || count != 1 || j.Len() != 2 {
		t.Error(e, count)
	}
	e = journal.Attempt(&j, func() {
		count += 10
		j.Record(func() { count -= 10 })
		func() { journal.Fail(api.ErrAssert) }()
		t.Error("Fail returned")
	})
	if e != api.ErrAssert || count != 1 || j.Len() != 2 || len(*before) != 0 {
		t.Error(e, count)
	}
	if e := journal.Attempt(&j, func() { journal.Fail(api.OK) }); e != api.ErrArg {
		t.Error(e)
	}
	e = journal.Attempt(&j, func() {
		j.Forget(0)
		j.Record(func() { t.Error("the journal is shorter") })
		journal.Fail(api.ErrFull)
	})
	if e != api.ErrFull || j.Len() != 1 {
		t.Error("a journal that is already shorter is left unchanged", e, j.Len())
	}
}

func TestNestedAttempts(t *testing.T) {
	var j, k journal.Journal
	var undone []string
	record := func(to *journal.Journal, s string) { to.Record(func() { undone = append(undone, s) }) }
	e := journal.Attempt(&j, func() {
		record(&j, "outer")
		inner := journal.Attempt(&k, func() {
			record(&k, "inner")
			record(&j, "of the other journal")
			journal.Fail(api.ErrLocal)
		})
		if inner != api.ErrLocal || !slices.Equal(undone, []string{"inner"}) || j.Len() != 2 {
			t.Error(inner, undone)
		}
		journal.Fail(api.ErrTape)
	})
	if e != api.ErrTape || !slices.Equal(undone, []string{"inner", "of the other journal", "outer"}) || j.Len() != 0 {
		t.Error(e, undone)
	}
}

func TestOtherPanics(t *testing.T) {
	var j journal.Journal
	undone := 0
	var value any
	func() {
		defer func() { value = recover() }()
		journal.Attempt(&j, func() {
			j.Record(func() { undone++ })
			panic("other")
		})
		t.Error("the panic ended")
	}()
	if value != "other" || undone != 1 || j.Len() != 0 {
		t.Error(value, undone)
	}
	func() {
		defer func() { value = recover() }()
		j.Record(func() {})
		j.Record(func() { panic("undo") })
		j.Rewind(0)
	}()
	if value != "undo" || j.Len() != 1 || j.Rewind(0) != api.OK {
		t.Error("a panic of an undo function passes through", value, j.Len())
	}
}

func TestFailOutsideOfAttempt(t *testing.T) {
	defer func() {
		if recover() == nil {
			t.Error("Fail returned")
		}
	}()
	journal.Fail(api.ErrForm)
}

func TestNil(t *testing.T) {
	var j *journal.Journal
	j.Record(func() {})
	if j.Len() != 0 || j.Rewind(0) != api.ErrArg || j.Forget(0) != api.ErrArg {
		t.Error("nil journal")
	}
	if e := journal.Attempt(nil, func() { t.Error("called") }); e != api.ErrArg {
		t.Error(e)
	}
	if e := journal.Attempt(&journal.Journal{}, nil); e != api.ErrArg {
		t.Error(e)
	}
}
