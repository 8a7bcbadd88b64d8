package tape_test

import (
	"slices"
	"testing"

	"backstep/api"
	"backstep/tape"
)

func expect(t *testing.T, p *tape.Tape, in, out []int) {
	t.Helper()
	if !slices.Equal(p.In(), in) || !slices.Equal(p.Out(), out) {
		t.Errorf("in %v, out %v", p.In(), p.Out())
	}
}

func TestNew(t *testing.T) {
	in, out := []int{5, 6}, []int{1}
	p, e := tape.New(in, out)
	if e != api.OK {
		t.Fatal(e)
	}
	in[0], out[0] = 0, 0
	expect(t, p, []int{5, 6}, []int{1})
	p.In()[0], p.Out()[0] = 0, 0
	expect(t, p, []int{5, 6}, []int{1})
	full := make([]int, api.MaxTape)
	if _, e := tape.New(full, full); e != api.OK {
		t.Error(e)
	}
	long := make([]int, api.MaxTape+1)
	if p, e := tape.New(long, nil); p != nil || e != api.ErrFull {
		t.Error(e)
	}
	if p, e := tape.New(nil, long); p != nil || e != api.ErrFull {
		t.Error(e)
	}
}

func TestInput(t *testing.T) {
	p, _ := tape.New([]int{5, 6}, []int{9})
	if n, e := p.Read(); n != 5 || e != api.OK {
		t.Error(n, e)
	}
	if e := p.Unread(7); e != api.OK {
		t.Error(e)
	}
	expect(t, p, []int{7, 6}, []int{9})
	p.Read()
	p.Read()
	if n, e := p.Read(); n != 0 || e != api.ErrTape {
		t.Error(n, e)
	}
	expect(t, p, nil, []int{9})
	full, _ := tape.New(make([]int, api.MaxTape), nil)
	if e := full.Unread(1); e != api.ErrFull || len(full.In()) != api.MaxTape || full.In()[0] != 0 {
		t.Error(e)
	}
	if e := full.Write(1); e != api.OK {
		t.Error("the output has room", e)
	}
}

func TestOutput(t *testing.T) {
	p, _ := tape.New([]int{5}, nil)
	if n, e := p.Unwrite(); n != 0 || e != api.ErrTape {
		t.Error(n, e)
	}
	for n := 1; n <= 3; n++ {
		if e := p.Write(n); e != api.OK {
			t.Error(e)
		}
	}
	expect(t, p, []int{5}, []int{1, 2, 3})
	if n, e := p.Unwrite(); n != 3 || e != api.OK {
		t.Error(n, e)
	}
	expect(t, p, []int{5}, []int{1, 2})
	p.Unwrite()
	if n, e := p.Unwrite(); n != 1 || e != api.OK {
		t.Error("the last number", n, e)
	}
	full, _ := tape.New(nil, make([]int, api.MaxTape))
	if e := full.Write(1); e != api.ErrFull || len(full.Out()) != api.MaxTape {
		t.Error(e)
	}
	if e := full.Unread(1); e != api.OK {
		t.Error("the input has room", e)
	}
}

func TestInverses(t *testing.T) {
	p, _ := tape.New([]int{1, 2, 3}, []int{4, 5})
	n, _ := p.Read()
	p.Unread(n)
	p.Unread(8)
	p.Read()
	n, _ = p.Unwrite()
	p.Write(n)
	p.Write(8)
	p.Unwrite()
	expect(t, p, []int{1, 2, 3}, []int{4, 5})
}

func TestNilAndZero(t *testing.T) {
	var p *tape.Tape
	if n, e := p.Read(); n != 0 || e != api.ErrArg {
		t.Error("Read", n, e)
	}
	if n, e := p.Unwrite(); n != 0 || e != api.ErrArg {
		t.Error("Unwrite", n, e)
	}
	if p.Unread(1) != api.ErrArg || p.Write(1) != api.ErrArg || len(p.In()) != 0 || len(p.Out()) != 0 {
		t.Error("nil tape")
	}
	var zero tape.Tape
	expect(t, &zero, nil, nil)
	zero.Unread(1)
	zero.Write(2)
	expect(t, &zero, []int{1}, []int{2})
}
