// Package codec is layer 1: see shared/doc/01-codec.md.
package codec

import (
	"math/bits"

	"stockyard/api"
)

const (
	groupBits = 7
	payload   = 1<<groupBits - 1
	more      = 1 << groupBits
	mostBytes = 10
	// An arithmetic shift by signShift leaves 0 of a number that is at least 0, and -1 of another one.
	signShift = 63
)

// PutUint returns b, followed by the encoding of v.
func PutUint(b []byte, v uint64) []byte {
	return appendUint(extended(b, uintSize(v)), v)
}

// PutInt returns b, followed by the encoding of v.
func PutInt(b []byte, v int) []byte {
	return PutUint(b, fold(int64(v)))
}

// PutText returns b, followed by the encoding of s.
func PutText(b []byte, s string) []byte {
	size := uint64(len(s))
	return append(appendUint(extended(b, uintSize(size)+len(s)), size), s...)
}

// PutBool returns b, followed by the encoding of v.
func PutBool(b []byte, v bool) []byte {
	one := byte(0)
	if v {
		one = 1
	}
	return append(extended(b, 1), one)
}

// Uint decodes the number at the offset at.
func Uint(b []byte, at int) (v uint64, next int, e api.Errno) {
	if at < 0 || at > len(b) {
		return 0, 0, api.ErrCodecPlace
	}
	for i, c := range b[at:] {
		if i == mostBytes-1 && c != 1 {
			// Of 64 bits, nine groups leave one, and a zero there is not the shortest form.
			return 0, 0, api.ErrCodecForm
		}
		v |= uint64(c&payload) << (groupBits * i)
		if c&more != 0 {
			continue
		}
		if c == 0 && i > 0 {
			return 0, 0, api.ErrCodecForm
		}
		return v, at + i + 1, api.OK
	}
	return 0, 0, api.ErrCodecShort
}

// Int decodes the signed number at the offset at.
func Int(b []byte, at int) (v int, next int, e api.Errno) {
	u, next, e := Uint(b, at)
	return int(unfold(u)), next, e
}

// Text decodes the text of at most most bytes at the offset at.
func Text(b []byte, at, most int) (s string, next int, e api.Errno) {
	size, start, e := Uint(b, at)
	switch {
	case e != api.OK:
		return "", 0, e
	case size > uint64(max(most, 0)):
		return "", 0, api.ErrCodecLong
	case size > uint64(len(b)-start):
		return "", 0, api.ErrCodecShort
	}
	next = start + int(size)
	return string(b[start:next]), next, api.OK
}

// Bool decodes the truth value at the offset at.
func Bool(b []byte, at int) (v bool, next int, e api.Errno) {
	switch {
	case at < 0 || at > len(b):
		return false, 0, api.ErrCodecPlace
	case at == len(b):
		return false, 0, api.ErrCodecShort
	case b[at] > 1:
		return false, 0, api.ErrCodecForm
	}
	return b[at] == 1, at + 1, api.OK
}

// extended returns a copy of b that has room for as many bytes more.
func extended(b []byte, room int) []byte {
	out := make([]byte, len(b), len(b)+room)
	copy(out, b)
	return out
}

// appendUint writes into the spare room of b, which the caller has made.
func appendUint(b []byte, v uint64) []byte {
	for v > payload {
		b = append(b, byte(v&payload)|more)
		v >>= groupBits
	}
	return append(b, byte(v))
}

func uintSize(v uint64) int {
	// v|1, because zero takes a group as well.
	return (bits.Len64(v|1) + groupBits - 1) / groupBits
}

// fold moves the sign to the lowest bit, and turns the other bits of a negative number over.
func fold(v int64) uint64 {
	return uint64(v<<1) ^ uint64(v>>signShift)
}

func unfold(u uint64) int64 {
	return int64(u>>1) ^ -int64(u&1)
}
