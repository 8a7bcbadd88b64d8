package checker_test

import (
	"slices"
	"testing"

	"backstep/api"
	"backstep/checker"
	"backstep/parser"
)

const vars = "int x int y int i array a[4] array b[4] stack s stack t proc f(int p, int q, stack r) { } "

func parse(t *testing.T, s string) api.Program {
	t.Helper()
	p, pos, e := parser.Program(s)
	if e != api.OK {
		t.Fatalf("%q: %d, %d", s, pos, e)
	}
	return p
}

func TestSingleStatements(t *testing.T) {
	for s, want := range map[string]struct {
		e    api.Errno
		name string
	}{
		"x := 1;":                            {api.ErrLossy, "x"},
		"a[a[0]] := x;":                      {api.ErrLossy, "a"},
		"x += x;":                            {api.ErrAlias, "x"},
		"x -= y + x;":                        {api.ErrAlias, "x"},
		"x ^= a[x];":                         {api.ErrAlias, "x"},
		"a[a[0]] -= 1;":                      {api.ErrAlias, "a"},
		"a[i] += a[x];":                      {api.ErrAlias, "a"},
		"a[i] += i;":                         {api.OK, ""},
		"x += y;":                            {api.OK, ""},
		"a[i] <=> a[x];":                     {api.OK, ""},
		"x <=> x;":                           {api.OK, ""},
		"a[b[1]] <=> b[a[1]];":               {api.ErrAlias, "b"},
		"a[b[a[0]]] <=> b[1];":               {api.ErrAlias, "a"},
		"a[i] <=> b[b[1] + a[1]];":           {api.ErrAlias, "a"},
		"a[i] <=> b[b[1]];":                  {api.ErrAlias, "b"},
		"a[x] <=> x;":                        {api.ErrAlias, "x"},
		"x <=> a[x];":                        {api.ErrAlias, "x"},
		"push a[a[1] + top(s)], s;":          {api.ErrAlias, "a"},
		"push a[top(s) + a[1]], s;":          {api.ErrAlias, "a"},
		"pop a[size(s)], s;":                 {api.ErrAlias, "s"},
		"pop a[size(t)], s;":                 {api.OK, ""},
		"push x, s;":                         {api.OK, ""},
		"read a[a[1]];":                      {api.ErrAlias, "a"},
		"unread a[a[1]];":                    {api.ErrAlias, "a"},
		"write a[a[1]];":                     {api.ErrAlias, "a"},
		"unwrite a[x + a[1]];":               {api.ErrAlias, "a"},
		"read a[x];":                         {api.OK, ""},
		"call f(x, x, s);":                   {api.ErrAlias, "x"},
		"uncall f(y, y, s);":                 {api.ErrAlias, "y"},
		"call f(x, y, s);":                   {api.OK, ""},
		"if x > 0 { } else { } fi 1;":        {api.ErrConst, ""},
		"if x { } else { } fi 1 - 1;":        {api.ErrConst, ""},
		"if 1 { } else { } fi 1;":            {api.OK, ""},
		"if 1 / 0 { } else { } fi 1;":        {api.ErrConst, ""},
		"if x { } else { } fi 1 / 0;":        {api.OK, ""},
		"if 1 { } else { } fi x;":            {api.OK, ""},
		"from 1 { } loop { } until x;":       {api.ErrConst, ""},
		"from 1 { } loop { } until 1;":       {api.ErrConst, ""},
		"from x { } loop { } until 1;":       {api.OK, ""},
		"from x * 0 { } loop { } until 1;":   {api.OK, ""},
		"local k = x { k += 1; } delocal x;": {api.OK, ""},
		"local stack u { push x, u; };":      {api.OK, ""},
	} {
		l := checker.Check(parse(t, vars+"main { "+s+" }"))
		if want.e == api.OK {
			if len(l) != 0 {
				t.Errorf("%q: %v", s, l)
			}
			continue
		}
		if len(l) != 1 || l[0].Err != want.e || l[0].Name != want.name || l[0].Proc != -1 || !slices.Equal(l[0].Path, []int{0}) {
			t.Errorf("%q: %v", s, l)
		}
		if checker.OK(parse(t, vars+"main { "+s+" }")) {
			t.Errorf("%q is accepted", s)
		}
	}
}

func TestOrder(t *testing.T) {
	p := parse(t, `int x int y
proc f(int a, int b) { a += a; if a { b := 1; } else { b += b; } fi 1; }
proc g(int a) { a ^= a; }
main { call f(x, x); from 0 { x -= x; } loop { } until y; }`)
	want := []checker.Rejection{
		{0, []int{0}, api.ErrAlias, "a"}, {0, []int{1}, api.ErrConst, ""}, {0, []int{1, 1, 0}, api.ErrLossy, "b"}, {0, []int{1, 2, 0}, api.ErrAlias, "b"},
		{1, []int{0}, api.ErrAlias, "a"},
		{-1, []int{0}, api.ErrAlias, "x"}, {-1, []int{1}, api.ErrConst, ""}, {-1, []int{1, 1, 0}, api.ErrAlias, "x"},
	}
	same := func(a, b checker.Rejection) bool {
		return a.Proc == b.Proc && a.Err == b.Err && a.Name == b.Name && slices.Equal(a.Path, b.Path)
	}
	if got := checker.Check(p); !slices.EqualFunc(got, want, same) {
		t.Error(got)
	}
}

func TestUnsoundPrograms(t *testing.T) {
	for _, s := range []string{"int x main { x += x; y += 1; }", "int x int x main { x += x; }", "int x main { x += x; x[1] += 2; }"} {
		p := parse(t, s)
		if len(checker.Check(p)) != 0 || checker.OK(p) {
			t.Errorf("%q", s)
		}
	}
	if len(checker.Check(api.Program{})) != 0 || checker.OK(api.Program{}) {
		t.Error("invalid program")
	}
	if !checker.OK(parse(t, "main { }")) || !checker.OK(parse(t, vars+"main { x += y; call f(x, y, s); }")) {
		t.Error("accepted programs")
	}
}
