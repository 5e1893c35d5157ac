// Package utf is layer 1: see shared/doc/01-utf.md.
package utf

import "footbridge/api"

// none stands in the place of a code point where bytes begin with none.
const none = -1

// Decode is the code point with which bytes begin.
func Decode(b []byte, final bool) (int, int, bool) {
	if len(b) == 0 {
		return none, 0, true
	}
	size := sizeOf(b[0])
	part := firstPart(b, size)
	if size > 0 && part == size {
		return join(b[:size]), size, false
	}
	if part == len(b) && !final {
		return none, 0, true
	}
	return none, 1, false
}

// Encode are a code point's bytes.
func Encode(point int) ([]byte, bool) {
	switch {
	case !isPoint(point):
		return nil, false
	case point < 0x80:
		return []byte{byte(point)}, true
	case point < 0x800:
		return []byte{byte(0xc0 | point>>6), follow(point)}, true
	case point < 0x10000:
		return []byte{byte(0xe0 | point>>12), follow(point >> 6), follow(point)}, true
	}
	return []byte{byte(0xf0 | point>>18), follow(point >> 12), follow(point >> 6), follow(point)}, true
}

// Points are the code points of all bytes.
func Points(b []byte) []int {
	var points []int
	for at := 0; at < len(b); {
		point, n, _ := Decode(b[at:], true)
		points = append(points, point)
		at += n
	}
	return points
}

// Rest is how many bytes at the end need more.
func Rest(b []byte) int {
	for at := 0; at < len(b); {
		_, n, more := Decode(b[at:], false)
		if more {
			return len(b) - at
		}
		at += n
	}
	return 0
}

func isPoint(n int) bool {
	return 0 <= n && n <= api.MaxPoint && (n < 0xd800 || n > 0xdfff)
}

// follow is a byte behind a code point's first one, with the lower six bits.
func follow(bits int) byte {
	return byte(0x80 | bits&0x3f)
}

// sizeOf is how many bytes a code point has that begins with this one; 0, if none does.
func sizeOf(first byte) int {
	switch {
	case first < 0x80:
		return 1
	case first < 0xc2: // 0xc0 and 0xc1 would tell what a single byte tells
		return 0
	case first < 0xe0:
		return 2
	case first < 0xf0:
		return 3
	case first < 0xf5: // from 0xf5 on all would be above the greatest code point
		return 4
	}
	return 0
}

// secondOf is from where to where a second byte may be, behind this first one.
func secondOf(first byte) (byte, byte) {
	switch first {
	case 0xe0: // below 0xa0 two bytes are enough
		return 0xa0, 0xbf
	case 0xed: // above 0x9f are 0xd800 to 0xdfff
		return 0x80, 0x9f
	case 0xf0: // below 0x90 three bytes are enough
		return 0x90, 0xbf
	case 0xf4: // above 0x8f all are above the greatest code point
		return 0x80, 0x8f
	}
	return 0x80, 0xbf
}

// firstPart is how many bytes at the front are a first part of a code point's bytes, which are as many as size.
func firstPart(b []byte, size int) int {
	n := min(size, len(b))
	for i := 1; i < n; i++ {
		lo, hi := byte(0x80), byte(0xbf)
		if i == 1 {
			lo, hi = secondOf(b[0])
		}
		if b[i] < lo || b[i] > hi {
			return i
		}
	}
	return n
}

// join is the code point of which these are all bytes.
func join(b []byte) int {
	point := int(b[0])
	if len(b) > 1 {
		// The first byte has one bit fewer of its own for each byte behind it.
		point &= 0x7f >> len(b)
	}
	for _, x := range b[1:] {
		point = point<<6 | int(x&0x3f)
	}
	return point
}
