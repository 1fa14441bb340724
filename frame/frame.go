// Package frame puts a version, a length and a sum around bytes, and tells of any bytes whether they are such a frame: see DOC.md, chapter 1.
package frame

import "sluice/api"

const (
	version = 1
	head    = 3 // bytes ahead of the payload: the version, and its length in two
	tail    = 4 // bytes behind it: the sum
)

// halves: what a half byte becomes in four of the eight turns of which T is made. T is linear, so two looks at this short table do for one at T's 256 numbers.
var halves = [16]uint32{
	0x00000000, 0x1DB71064, 0x3B6E20C8, 0x26D930AC, 0x76DC4190, 0x6B6B51F4, 0x4DB26158, 0x5005713C,
	0xEDB88320, 0xF00F9344, 0xD6D6A3E8, 0xCB61B38C, 0x9B64C2B0, 0x86D3D2D4, 0xA00AE278, 0xBDBDF21C,
}

// Seal tells the frame of a payload.
func Seal(payload []byte) ([]byte, api.Errno) {
	n := len(payload)
	if n > api.MaxPayload {
		return nil, api.ErrLong
	}
	b := make([]byte, head+n+tail)
	b[0], b[1], b[2] = version, byte(n), byte(n>>8)
	copy(b[head:], payload)
	putSum(b[head+n:], sum(b[:head+n]))
	return b, api.OK
}

// Open tells the payload of a frame.
func Open(b []byte) ([]byte, api.Errno) {
	n := len(b) - head - tail
	if n < 0 {
		return nil, api.ErrFrame
	}
	if b[0] != version {
		return nil, api.ErrVersion
	}
	if told := int(b[1]) | int(b[2])<<8; told > api.MaxPayload || told != n {
		return nil, api.ErrFrame
	}
	if getSum(b[head+n:]) != sum(b[:head+n]) {
		return nil, api.ErrSum
	}
	payload := make([]byte, n)
	copy(payload, b[head:head+n:head+n])
	return payload, api.OK
}

// sum tells the sum of bytes: P101.
func sum(b []byte) uint32 {
	s := ^uint32(0)
	for _, x := range b {
		s ^= uint32(x)
		s = s>>4 ^ halves[s&15]
		s = s>>4 ^ halves[s&15]
	}
	return ^s
}

// putSum writes a sum into the first four bytes of b, the lowest one first.
func putSum(b []byte, s uint32) {
	for i := range tail {
		b[i] = byte(s >> (8 * i))
	}
}

// getSum reads what putSum has written.
func getSum(b []byte) uint32 {
	s := uint32(0)
	for i := range tail {
		s |= uint32(b[i]) << (8 * i)
	}
	return s
}
