// Package utf is layer 1: bytes as text, which bytes are UTF-8.
package utf

import "scarf/api"

// Where the lengths of signs change, and where there are none.
const (
	firstOfTwo    rune = 0x80
	firstOfThree  rune = 0x800
	firstOfFour   rune = 0x10000
	firstOfNone   rune = 0x110000
	firstOfHole   rune = 0xd800
	firstPastHole rune = 0xe000
)

// What a byte is made of: a lead and bits of its sign.
const (
	leadOfMore  = 0x80
	leadOfTwo   = 0xc0
	leadOfThree = 0xe0
	leadOfFour  = 0xf0
	leadOfNone  = 0xf8
	bitsOfMore  = 0x3f
)

// Next tells the sign whose bytes b begins with, and how many they are; -1 and 0, if there is none.
func Next(b []byte) (int, int) {
	if len(b) == 0 {
		return -1, 0
	}
	n, sign := begin(b[0])
	if n == 0 || n > len(b) {
		return -1, 0
	}
	for _, c := range b[1:n] {
		if c&^bitsOfMore != leadOfMore {
			return -1, 0
		}
		sign = sign<<6 | rune(c&bitsOfMore)
	}
	// The bits may be those of no sign, or of one that has fewer bytes.
	if length(sign) != n {
		return -1, 0
	}
	return int(sign), n
}

// Bytes tells a sign's bytes; ErrArg, if it is none.
func Bytes(sign int) ([]byte, api.Errno) {
	r := rune(sign)
	if int(r) != sign { // a rune is narrower: what is too great for it would become another sign
		return nil, api.ErrArg
	}
	switch length(r) {
	case 1:
		return []byte{byte(r)}, api.OK
	case 2:
		return []byte{leadOfTwo | byte(r>>6), more(r)}, api.OK
	case 3:
		return []byte{leadOfThree | byte(r>>12), more(r >> 6), more(r)}, api.OK
	case 4:
		return []byte{leadOfFour | byte(r>>18), more(r >> 12), more(r >> 6), more(r)}, api.OK
	}
	return nil, api.ErrArg
}

// Text tells whether b is a text.
func Text(b []byte) bool {
	return Bad(b) == len(b)
}

// Signs tells a text's signs; ErrText, if b is none.
func Signs(b []byte) ([]int, api.Errno) {
	var l []int
	end := walk(b, func(sign int) { l = append(l, sign) })
	if end < len(b) {
		return nil, api.ErrText
	}
	return l, api.OK
}

// Bad tells the first place from which on there is no sign; b's length, if b is a text.
func Bad(b []byte) int {
	return walk(b, func(int) {})
}

// walk hands on b's signs from the front, and tells the place behind the last one.
func walk(b []byte, each func(sign int)) int {
	at := 0
signs:
	for {
		switch sign, n := Next(b[at:]); n {
		case 0: // b's end, too
			break signs
		default:
			each(sign)
			at += n
		}
	}
	return at
}

// length tells how many bytes a sign has; 0, if it is none.
func length(sign rune) int {
	switch {
	case sign < 0:
		return 0
	case sign < firstOfTwo:
		return 1
	case sign < firstOfThree:
		return 2
	case firstOfHole <= sign && sign < firstPastHole:
		return 0
	case sign < firstOfFour:
		return 3
	case sign < firstOfNone:
		return 4
	}
	return 0
}

// begin tells how many bytes the first one says its sign has (0, if it is no first one), and its bits of the sign.
func begin(c byte) (int, rune) {
	switch {
	case c < leadOfMore:
		return 1, rune(c)
	case c < leadOfTwo:
		return 0, 0
	case c < leadOfThree:
		return 2, rune(c &^ leadOfTwo)
	case c < leadOfFour:
		return 3, rune(c &^ leadOfThree)
	case c < leadOfNone:
		return 4, rune(c &^ leadOfFour)
	}
	return 0, 0
}

// more tells the byte of a sign's lowest six bits.
func more(sign rune) byte {
	return leadOfMore | byte(sign)&bitsOfMore
}
