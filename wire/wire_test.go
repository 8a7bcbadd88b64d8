package wire_test

import (
	"bytes"
	"testing"

	"backstep/api"
	"backstep/wire"
)

func TestAppend(t *testing.T) {
	b := wire.Append(wire.Append(wire.Append(nil, 2, 258), 8, -2), 1, 7)
	if !bytes.Equal(b, []byte{1, 2, 255, 255, 255, 255, 255, 255, 255, 254, 7}) {
		t.Error(b)
	}
	r := wire.Reader{Rest: b}
	if r.Integer(2) != 258 || r.Integer(8) != -2 || r.Err != api.OK {
		t.Error(r)
	}
	r.End()
	if r.Err != api.ErrForm || r.Integer(1) != 0 {
		t.Error("bytes remain", r)
	}
}

func TestErrors(t *testing.T) {
	r := wire.Reader{Rest: []byte{1, 2}}
	if r.Integer(4) != 0 || r.Err != api.ErrEnd || r.Bytes(1) != nil {
		t.Error(r)
	}
	r.Fail(api.ErrFull)
	r.End()
	if r.Err != api.ErrEnd {
		t.Error("the first error is kept", r.Err)
	}
}
