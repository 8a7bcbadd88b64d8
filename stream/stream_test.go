package stream_test

import (
	"testing"

	"backstep/api"
	"backstep/stream"
)

func TestTokens(t *testing.T) {
	s := stream.New("x 12 # c\n ( a , b )")
	if s.Name() != "x" || s.Number(1, 20) != 12 || s.Err != api.OK {
		t.Error(s)
	}
	var names []string
	s.List(func(count int) {
		if count != len(names) {
			t.Error(count)
		}
		names = append(names, s.Name())
	})
	s.Finish()
	if len(names) != 2 || names[1] != "b" || s.Err != api.OK || s.More() || s.Peek().Kind != 0 {
		t.Error(names, s.Err)
	}
}

func TestErrors(t *testing.T) {
	for text, want := range map[string]struct {
		pos int
		e   api.Errno
	}{"x y": {2, api.ErrForm}, "x 1": {0, api.OK}, "x 9": {0, api.OK}, "x 0": {2, api.ErrRange}, "x 10": {2, api.ErrRange}, "x 99999999999999999999": {2, api.ErrRange}, "x": {1, api.ErrEnd}, "x 99": {2, api.ErrRange}, "x 5 5": {4, api.ErrForm}, "x $": {2, api.ErrForm}, "if 5": {0, api.ErrForm}, "x 5": {0, api.OK}} {
		s := stream.New(text)
		s.Name()
		s.Number(1, 9)
		s.Finish()
		s.Fail(77, s.Err)
		if s.Err != want.e || s.Pos != want.pos && s.Err != api.OK {
			t.Errorf("%q: %d, %d", text, s.Pos, s.Err)
		}
		if s.Accept("x") || s.More() {
			t.Error("tokens are left after an error")
		}
	}
}

func TestBinary(t *testing.T) {
	s := stream.New("1 - 2 * 3 - 4")
	combine := func(op byte, l, r api.Node) api.Node { return api.Node{Kind: op, Kids: []api.Node{l, r}} }
	n := s.Binary(1, func() api.Node { return api.Node{Num: s.Number(0, 9)} }, combine)
	if s.Err != api.OK || n.Kind != api.Sub || n.Kids[0].Kind != api.Sub || n.Kids[0].Kids[1].Kind != api.Mul || n.Kids[1].Num != 4 {
		t.Error(n, s.Err)
	}
}

func TestExpectAndList(t *testing.T) {
	s := stream.New("a b")
	s.Expect("a")
	s.Expect("c")
	if s.Err != api.ErrForm || s.Pos != 2 {
		t.Error(s.Pos, s.Err)
	}
	empty := stream.New("() x")
	empty.List(func(int) { t.Error("there is no element") })
	if empty.Err != api.OK || empty.Name() != "x" {
		t.Error(empty.Err)
	}
	open := stream.New("(a b)")
	open.List(func(int) { open.Name() })
	if open.Err != api.ErrForm || open.Pos != 3 {
		t.Error(open.Pos, open.Err)
	}
	missing := stream.New("a)")
	missing.List(func(int) { t.Error("there is no list") })
	if missing.Err != api.ErrForm || missing.Pos != 0 {
		t.Error(missing.Pos, missing.Err)
	}
	bad := stream.New("1")
	if bad.Name(); bad.Err != api.ErrForm {
		t.Error(bad.Err)
	}
	word := stream.New("x")
	if n := word.Number(0, 9); n != 0 || word.Err != api.ErrForm {
		t.Error(n, word.Err)
	}
}
