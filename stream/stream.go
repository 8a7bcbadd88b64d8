// Package stream is what the two recursive-descent parsers have in common: a list of tokens, and the first error.
package stream

import (
	"strconv"

	"backstep/api"
	"backstep/arith"
	"backstep/lexer"
)

// Stream is the rest of a text. Err is the first error, and Pos its offset; after an error no token is left, so that all loops of a parser end.
type Stream struct {
	tokens []lexer.Token
	end    int
	ops    map[string]byte
	Pos    int
	Err    api.Errno
}

// New returns the tokens of a text without spaces and comments.
func New(s string) Stream {
	l, pos, e := lexer.Lex(s)
	ops := map[string]byte{}
	for _, op := range arith.Operators() {
		ops[arith.Symbol(op)] = op
	}
	return Stream{tokens: lexer.Solid(l), end: len(s), ops: ops, Pos: pos, Err: e}
}

// Fail keeps an error, unless there is one already.
func (s *Stream) Fail(pos int, e api.Errno) {
	if s.Err == api.OK {
		s.Pos, s.Err, s.tokens = pos, e, nil
	}
}

// Reject reports that the next token cannot stand where it stands.
func (s *Stream) Reject() {
	if len(s.tokens) == 0 {
		s.Fail(s.end, api.ErrEnd)
	} else {
		s.Fail(s.tokens[0].Pos, api.ErrForm)
	}
}

// More reports whether there is another token.
func (s *Stream) More() bool { return s.Err == api.OK && len(s.tokens) > 0 }

// Finish rejects tokens that are left.
func (s *Stream) Finish() {
	if s.More() {
		s.Reject()
	}
}

// Peek returns the next token, or a zero token at the end of the text.
func (s *Stream) Peek() lexer.Token {
	if !s.More() {
		return lexer.Token{}
	}
	return s.tokens[0]
}

// Next skips a token and returns it.
func (s *Stream) Next() lexer.Token {
	t := s.Peek()
	if s.More() {
		s.tokens = s.tokens[1:]
	}
	return t
}

// Accept skips the next token if it has this text.
func (s *Stream) Accept(text string) bool {
	if !s.More() || s.Peek().Text != text {
		return false
	}
	s.Next()
	return true
}

// Expect skips the next token, which must have this text.
func (s *Stream) Expect(text string) {
	if !s.Accept(text) {
		s.Reject()
	}
}

// Name reads a name.
func (s *Stream) Name() string {
	if !lexer.Name(s.Peek().Text) {
		s.Reject()
	}
	return s.Next().Text
}

// Number reads a number from least to most.
func (s *Stream) Number(least, most int) int {
	t := s.Peek()
	if t.Kind != lexer.Number {
		s.Reject()
		return 0
	}
	n, err := strconv.Atoi(t.Text)
	if err != nil || n < least || n > most {
		s.Fail(t.Pos, api.ErrRange)
	}
	s.Next()
	return n
}

// List reads a list in parentheses, whose elements are separated by commas; element is given the number of elements before it.
func (s *Stream) List(element func(count int)) {
	s.Expect("(")
	if s.Accept(")") {
		return
	}
	for count := 0; s.Err == api.OK; count++ {
		element(count)
		if !s.Accept(",") {
			s.Expect(")")
			return
		}
	}
}

// Binary reads operands that are combined by binary operators, which have at least the given level; all operators of one level associate to the left.
func (s *Stream) Binary(level int, operand func() api.Node, combine func(op byte, left, right api.Node) api.Node) api.Node {
	left := operand()
	for {
		op, ok := s.ops[s.Peek().Text]
		if !ok || arith.Level(op) < level {
			return left
		}
		s.Next()
		right := s.Binary(arith.Level(op)+1, operand, combine)
		left = combine(op, left, right)
	}
}
