// Package text is layer 1, code points: see shared/doc/01-text.md.
package text

import (
	"strings"

	"oxbow/api"
)

const (
	highest  = 1114111 // the highest code point
	gapFirst = 55296   // the first and the last number of the gap, in which no code point is
	gapLast  = 57343

	tailBits = 6   // bits that a byte behind the first one carries
	tailMask = 63  // those bits
	tailMark = 128 // what such a byte has above them
)

// Points are the code points of a text; false: it is no valid UTF-8.
func Points(s string) ([]int, bool) {
	n := Len(s)
	if n < 0 {
		return nil, false
	}
	l := make([]int, 0, n)
	for at := 0; at < len(s); {
		point, size := next(s, at)
		l = append(l, point)
		at += size
	}
	return l, true
}

// Text is the text of code points; false: one is none.
func Text(l []int) (string, bool) {
	b := make([]byte, 0, len(l))
	for _, point := range l {
		if sizeOf(point) == 0 {
			return "", false
		}
		b = appendPoint(b, point)
	}
	return string(b), true
}

// Len tells how many code points a text has; -1: it is not valid.
func Len(s string) int {
	n := 0
	for at := 0; at < len(s); n++ {
		_, size := next(s, at)
		if size == 0 {
			return -1
		}
		at += size
	}
	return n
}

// Cut is a part of a text, by code points.
func Cut(s string, from int, to int) (string, api.Errno) {
	n := Len(s)
	if n < 0 {
		return "", api.ErrText
	}
	if from < 0 || to < from || to > n {
		return "", api.ErrArg
	}
	start := skip(s, 0, from)
	end := skip(s, start, to-from)
	// A piece of s would keep all of s in memory.
	return strings.Clone(s[start:end]), api.OK
}

// Compare tells how two texts stand: by bytes, which for valid texts is by code points.
func Compare(a string, b string) int { return strings.Compare(a, b) }

// sizeOf tells how many bytes a code point has; 0: the number is no code point.
func sizeOf(point int) int {
	switch {
	case point < 0 || point > highest || gapFirst <= point && point <= gapLast:
		return 0
	case point < 128:
		return 1
	case point < 2048:
		return 2
	case point < 65536:
		return 3
	}
	return 4
}

// appendPoint puts the bytes of a code point behind others.
func appendPoint(b []byte, point int) []byte {
	switch sizeOf(point) {
	case 1:
		return append(b, byte(point))
	case 2:
		return append(b, 192|byte(point>>tailBits), tail(point, 0))
	case 3:
		return append(b, 224|byte(point>>(2*tailBits)), tail(point, 1), tail(point, 0))
	case 4:
		return append(b, 240|byte(point>>(3*tailBits)), tail(point, 2), tail(point, 1), tail(point, 0))
	}
	return b
}

// tail is the byte of a code point behind which so many others stand.
func tail(point int, behind int) byte {
	return tailMark | byte(point>>(behind*tailBits))&tailMask
}

// first tells of a first byte how many bytes its code point has, and the bits of it that the byte carries; 0 bytes: no code point begins so.
func first(b byte) (bits int, size int) {
	switch {
	case b < 128:
		return int(b), 1
	case b>>5 == 192>>5:
		return int(b & 31), 2
	case b>>4 == 224>>4:
		return int(b & 15), 3
	case b>>3 == 240>>3:
		return int(b & 7), 4
	}
	return 0, 0
}

// next is the code point whose bytes begin at a place within s, and how many they are; 0 bytes: none begins there.
func next(s string, at int) (point int, size int) {
	point, size = first(s[at])
	if size > len(s)-at {
		return 0, 0
	}
	for i := 1; i < size; i++ {
		b := s[at+i]
		if b>>tailBits != tailMark>>tailBits {
			return 0, 0
		}
		point = point<<tailBits | int(b&tailMask)
	}
	// A number spelt in more bytes than it needs is no code point's bytes.
	if sizeOf(point) != size {
		return 0, 0
	}
	return point, size
}

// skip is the place behind n code points of a valid text, from a place on.
func skip(s string, at int, n int) int {
	for range n {
		_, size := next(s, at)
		at += size
	}
	return at
}
