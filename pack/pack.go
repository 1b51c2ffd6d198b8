// Package pack is layer 2, numbers and texts as bytes: see shared/doc/02-pack.md.
package pack

import (
	"strings"

	"oxbow/api"
)

const (
	groupBits = 7   // bits of a number that a byte carries
	groupMask = 127 // those bits
	more      = 128 // what a byte has above them, if another group stands behind it
	maxGroups = 8   // groups of MaxNum

	wordBytes = 4
)

// Num, Text, List and Word write a number, a text, a list of texts, 32 bits.
func Num(n int) (string, api.Errno) {
	if n < 0 || n > api.MaxNum {
		return "", api.ErrPackNum
	}
	return string(appendNum(nil, n)), api.OK
}

func Text(s string) (string, api.Errno) {
	if len(s) > api.MaxPiece {
		return "", api.ErrLong
	}
	return string(appendText(nil, s)), api.OK
}

func List(l []string) (string, api.Errno) {
	if len(l) > api.MaxList {
		return "", api.ErrLong
	}
	// All lengths are looked at first, so that nothing great is written in vain.
	for _, s := range l {
		if len(s) > api.MaxPiece {
			return "", api.ErrLong
		}
	}
	b := appendNum(nil, len(l))
	for _, s := range l {
		b = appendText(b, s)
	}
	return string(b), api.OK
}

func Word(w uint32) string {
	return string([]byte{byte(w >> 24), byte(w >> 16), byte(w >> 8), byte(w)})
}

// TakeNum, TakeText, TakeList and TakeWord read one that begins at a place; and the place behind it.
func TakeNum(s string, at int) (int, int, api.Errno) { return takeUpTo(s, at, api.MaxNum) }

func TakeText(s string, at int) (string, int, api.Errno) {
	n, at, e := takeUpTo(s, at, api.MaxPiece)
	if e != api.OK {
		return "", 0, e
	}
	if n > len(s)-at {
		return "", 0, api.ErrPackCut
	}
	// A piece of s would keep all of s in memory.
	return strings.Clone(s[at : at+n]), at + n, api.OK
}

func TakeList(s string, at int) ([]string, int, api.Errno) {
	var l []string
	at, e := takeEach(s, at, func(at int) (int, api.Errno) {
		piece, behind, e := TakeText(s, at)
		l = append(l, piece)
		return behind, e
	})
	if e != api.OK {
		return nil, 0, e
	}
	return l, at, api.OK
}

func TakeWord(s string, at int) (uint32, int, api.Errno) {
	if at < 0 || at > len(s) {
		return 0, 0, api.ErrArg
	}
	if len(s)-at < wordBytes {
		return 0, 0, api.ErrPackCut
	}
	w := uint32(0)
	for i := range wordBytes {
		w = w<<8 | uint32(s[at+i])
	}
	return w, at + wordBytes, api.OK
}

// appendNum puts the form of a number from 0 to MaxNum behind other bytes.
func appendNum(b []byte, n int) []byte {
	for n > groupMask {
		b = append(b, more|byte(n&groupMask))
		n >>= groupBits
	}
	return append(b, byte(n))
}

// appendText puts the form of a text behind other bytes.
func appendText(b []byte, s string) []byte {
	return append(appendNum(b, len(s)), s...)
}

// takeUpTo reads a number that begins at a place and is at most most.
func takeUpTo(s string, at int, most int) (int, int, api.Errno) {
	if at < 0 || at > len(s) {
		return 0, 0, api.ErrArg
	}
	n := 0
	for i := range maxGroups {
		if at+i == len(s) {
			return 0, 0, api.ErrPackCut
		}
		b := s[at+i]
		n |= int(b&groupMask) << (i * groupBits)
		if b < more {
			// A last group of 0 behind others is a group too much.
			if b == 0 && i > 0 || n > most {
				return 0, 0, api.ErrPackForm
			}
			return n, at + i + 1, api.OK
		}
	}
	return 0, 0, api.ErrPackForm
}

// takeEach reads how many pieces a list has, and has each of them read by take, which tells the place behind it.
func takeEach(s string, at int, take func(at int) (int, api.Errno)) (int, api.Errno) {
	n, at, e := takeUpTo(s, at, api.MaxList)
	if e != api.OK {
		return 0, e
	}
	for range n {
		if at, e = take(at); e != api.OK {
			return 0, e
		}
	}
	return at, api.OK
}
