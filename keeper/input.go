package keeper

import (
	"bytes"

	"sluice/api"
	"sluice/number"
)

// Input is what comes to a replica.
type Input struct {
	Kind int
	Call api.Call
	Op   api.Op
	Data []byte
}

// The kinds of an input.
const (
	InputCall    = 1
	InputRequest = 2
	InputFrame   = 3
	InputTick    = 4
)

// numbers tells where the numbers of an InputCall stand, in the order of its bytes: both what writes them and what reads
// them goes by it.
func (x *Input) numbers() [5]*int {
	return [5]*int{&x.Call.Session, &x.Call.Id, &x.Op.Kind, &x.Op.A, &x.Op.B}
}

// isInput tells whether x is of one of the kinds, and has nothing that its kind has not.
func isInput(x Input) bool {
	callsNothing := x.Call == api.Call{} && x.Op == api.Op{}
	switch x.Kind {
	case InputCall:
		return len(x.Data) == 0
	case InputRequest, InputFrame:
		return callsNothing
	case InputTick:
		return callsNothing && len(x.Data) == 0
	}
	return false
}

// Encode tells an input's bytes: api.ErrInput, if x is none, api.ErrLong, if they were more than api.MaxRecord.
func Encode(x Input) ([]byte, api.Errno) {
	if !isInput(x) {
		return nil, api.ErrInput
	}
	b := []byte{byte(x.Kind)}
	if x.Kind == InputCall {
		for _, n := range x.numbers() {
			b = append(b, number.Bytes(number.Fold(*n))...)
		}
	}
	if len(b)+len(x.Op.Name)+len(x.Data) > api.MaxRecord {
		return nil, api.ErrLong
	}
	b = append(b, x.Op.Name...) // no input has both
	return append(b, x.Data...), api.OK
}

// Decode tells the input: api.ErrInput, if Encode tells these bytes of none.
func Decode(b []byte) (Input, api.Errno) {
	if len(b) == 0 || len(b) > api.MaxRecord {
		return Input{}, api.ErrInput
	}
	kind, rest := int(b[0]), b[1:]
	switch kind {
	case InputCall:
		return decodeCall(rest)
	case InputRequest, InputFrame:
		return Input{Kind: kind, Data: bytes.Clone(rest)}, api.OK
	case InputTick:
		if len(rest) == 0 {
			return Input{Kind: kind}, api.OK
		}
	}
	return Input{}, api.ErrInput
}

// decodeCall reads what stands behind the kind of an InputCall.
func decodeCall(b []byte) (Input, api.Errno) {
	x := Input{Kind: InputCall}
	for _, n := range x.numbers() {
		u, at, e := number.Read(b)
		if e != api.OK {
			return Input{}, api.ErrInput
		}
		*n = number.Unfold(u)
		b = b[at:]
	}
	x.Op.Name = string(b)
	return x, api.OK
}
