package gradebook_test

import (
	"slices"
	"testing"

	"backstep/api"
	"backstep/enumerate"
	"backstep/exercise"
	"backstep/gradebook"
	"backstep/parser"
	"backstep/state"
)

func parse(t *testing.T, s string) api.Program {
	t.Helper()
	p, pos, e := parser.Program(s)
	if e != api.OK {
		t.Fatalf("%q: %d, %d", s, pos, e)
	}
	return p
}

func task(t *testing.T, name string, points int) exercise.Exercise {
	return exercise.Exercise{Name: name, Points: points, Fuel: 30, Box: enumerate.Box{Value: 2}, Given: parse(t, "int x main { x += 1; }")}
}

func open(t *testing.T, l ...exercise.Exercise) *gradebook.Book {
	t.Helper()
	b, e := gradebook.New(l)
	if e != api.OK {
		t.Fatal(e)
	}
	return b
}

const (
	right = "int x main { x -= 1; }"
	wrong = "int x main { x -= 2; }"
)

func TestNew(t *testing.T) {
	good, bad := task(t, "inc", 5), task(t, "bad", 0)
	for i, c := range []struct {
		l    []exercise.Exercise
		want api.Errno
	}{
		{nil, api.OK}, {[]exercise.Exercise{good}, api.OK}, {[]exercise.Exercise{good, good, bad}, api.ErrForm}, {[]exercise.Exercise{good, good}, api.ErrTwice}, {slices.Repeat([]exercise.Exercise{bad}, 101), api.ErrFull}, {slices.Repeat([]exercise.Exercise{good}, 100), api.ErrTwice},
	} {
		if b, e := gradebook.New(c.l); e != c.want || (b != nil) != (e == api.OK) {
			t.Errorf("case %d: %d", i, e)
		}
	}
	l := []exercise.Exercise{task(t, "inc", 5)}
	b := open(t, l...)
	l[0].Given.Main.Kids[0].Kids[1].Num = 7
	l[0].Given.Vars[0].Name = "changed"
	l[0].Name = "other"
	if v, e := b.Submit("ann", "inc", parse(t, right)); !v.OK || e != api.OK {
		t.Error("the gradebook shares memory with the list", v, e)
	}
}

func TestSubmit(t *testing.T) {
	b := open(t, task(t, "inc", 5), task(t, "other", 7))
	for i, c := range []struct {
		student, name, answer string
		ok                    bool
		e                     api.Errno
		attempts, points      int
	}{
		{"ann", "inc", wrong, false, api.OK, 1, 0}, {"ann", "inc", right, true, api.OK, 2, 5}, {"ann", "inc", wrong, false, api.OK, 2, 5}, {"ann", "inc", right, true, api.OK, 2, 5}, {"ann", "other", right, true, api.OK, 1, 12},
		{"Bob", "none", "int x main { x := 1; }", false, api.ErrForm, 0, 0}, {"", "inc", right, false, api.ErrForm, 0, 0}, {"main", "inc", right, false, api.ErrForm, 0, 0}, {"bob", "none", "int x main { x := 1; }", false, api.ErrNone, 0, 0},
		{"bob", "inc", "int x main { x := 1; }", false, api.ErrLossy, 0, 0}, {"bob", "inc", "int y main { }", false, api.ErrType, 0, 0}, {"bob", "inc", "int x main { y += 1; }", false, api.ErrForm, 0, 0}, {"bob", "inc", right, true, api.OK, 1, 5},
	} {
		v, e := b.Submit(c.student, c.name, parse(t, c.answer))
		if e != c.e || v.OK != c.ok || b.Attempts(c.student, c.name) != c.attempts || b.Points(c.student) != c.points {
			t.Errorf("case %d: %v, %d, %d attempts, %d points", i, v, e, b.Attempts(c.student, c.name), b.Points(c.student))
		}
		if e == api.OK && v.Tried == 0 || e != api.OK && (v.Tried != 0 || !state.Equal(v.State, api.State{})) {
			t.Errorf("case %d: %v", i, v)
		}
	}
	if l := b.Students(); !slices.Equal(l, []string{"ann", "bob"}) {
		t.Error(l)
	}
	if b.Attempts("ann", "none") != 0 || b.Attempts("none", "inc") != 0 || b.Points("none") != 0 {
		t.Error("no attempts")
	}
	var many []exercise.Exercise
	for i := range 100 {
		many = append(many, task(t, "e"+string(rune('a'+i/10))+string(rune('a'+i%10)), 1+i))
	}
	b = open(t, many...)
	b.Submit("ann", "eda", parse(t, right))
	if b.Points("ann") != 31 {
		t.Error(b.Points("ann"))
	}
}

func TestRanking(t *testing.T) {
	b := open(t, task(t, "inc", 5), task(t, "two", 10))
	submit := func(student, name, answer string) { b.Submit(student, name, parse(t, answer)) }
	submit("ann", "inc", wrong)
	submit("ann", "inc", right)
	submit("bob", "inc", right)
	if l := b.Ranking(); !slices.Equal(l, []string{"bob", "ann"}) {
		t.Error(l)
	}
	submit("zoe", "two", wrong)
	submit("zoe", "two", wrong)
	submit("zoe", "two", right)
	submit("eve", "inc", wrong)
	submit("dan", "inc", wrong)
	submit("cid", "inc", wrong)
	submit("cid", "two", wrong)
	submit("bob", "two", wrong)
	submit("ann", "inc", wrong)
	if l := b.Ranking(); !slices.Equal(l, []string{"zoe", "ann", "bob", "dan", "eve", "cid"}) {
		t.Error(l)
	}
	if l := b.Students(); !slices.Equal(l, []string{"ann", "bob", "cid", "dan", "eve", "zoe"}) {
		t.Error(l)
	}
}

func TestNil(t *testing.T) {
	var b *gradebook.Book
	if v, e := b.Submit("", "", api.Program{}); e != api.ErrArg || v.OK {
		t.Error(v, e)
	}
	if b.Points("ann") != 0 || b.Attempts("ann", "inc") != 0 || len(b.Students()) != 0 || len(b.Ranking()) != 0 {
		t.Error("nil gradebook")
	}
}
