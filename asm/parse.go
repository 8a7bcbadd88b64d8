package asm

import (
	"strconv"
	"strings"

	"backstep/api"
	"backstep/arith"
	"backstep/isa"
)

// reader knows the words of the textual form.
type reader struct {
	opcodes   map[string]byte
	operators map[string]int
	writers   map[byte]func(x int) string
}

func newReader() reader {
	r := reader{map[string]byte{}, map[string]int{}, writers()}
	for op := range api.Opcodes {
		r.opcodes[isa.Mnemonic(op)] = op
	}
	for _, op := range arith.Operators() {
		r.operators[arith.Symbol(op)] = int(op)
	}
	return r
}

// Parse returns the code with a textual form, or the number of the first wrong line.
func Parse(s string) ([]api.Instr, int, api.Errno) {
	r := newReader()
	var l []api.Instr
	for s != "" {
		number := len(l) + 1
		if number > api.MaxCode {
			return nil, number, api.ErrFull
		}
		text, rest, ended := strings.Cut(s, "\n")
		i, ok := r.instr(text)
		if !ok {
			return nil, number, api.ErrForm
		}
		if !ended {
			return nil, number, api.ErrEnd
		}
		l = append(l, i)
		s = rest
	}
	return l, 0, api.OK
}

// instr reads a line generously, and then accepts only what would be written for the instruction.
func (r reader) instr(text string) (api.Instr, bool) {
	words := strings.Split(text, " ")
	op, ok := r.opcodes[words[0]]
	kinds := classes(op)
	if !ok || len(words) != 1+len(kinds) {
		return api.Instr{}, false
	}
	var x [4]int
	for j, word := range words[1:] {
		x[j] = r.operand(kinds[j], word)
	}
	i := instr(op, x)
	return i, isa.Valid(i) && line(i, r.writers) == text
}

// operand returns the value of a word, or any number if there is none.
func (r reader) operand(class byte, word string) int {
	if class == 'o' {
		return r.operators[word]
	}
	x, _ := strconv.Atoi(strings.TrimPrefix(word, "r"))
	return x
}
