package utf_test

import (
	"bytes"
	"math"
	"math/bits"
	"slices"
	"testing"
	"unicode/utf8"

	"scarf/api"
	"scarf/utf"
)

const topSign = 0x10ffff

func isSign(n int) bool {
	return 0 <= n && n <= topSign && (n < 0xd800 || n > 0xdfff)
}

// spell writes a sign as the document says it: by sums, not by bits.
func spell(sign int) []byte {
	low := func(n int) byte { return byte(0x80 + n%64) }
	switch {
	case sign < 0x80:
		return []byte{byte(sign)}
	case sign < 0x800:
		return []byte{byte(0xc0 + sign/64), low(sign)}
	case sign < 0x10000:
		return []byte{byte(0xe0 + sign/4096), low(sign / 64), low(sign)}
	}
	return []byte{byte(0xf0 + sign/262144), low(sign / 4096), low(sign / 64), low(sign)}
}

// edges are the first and the last sign of each length, and those around the hole.
func edges() []int {
	return []int{0, 0x41, 0x7f, 0x80, 0xe9, 0x7ff, 0x800, 0x20ac, 0xd7ff, 0xe000, 0xfffd, 0xffff, 0x10000, 0x1f600, 0x3ffff, 0x40000, 0xfffff, 0x100000, topSign}
}

// noSigns are bytes with which no sign begins, none of them empty.
func noSigns() []string {
	return []string{
		// no first byte
		"\x80", "\xbf", "\x80\x80", "\xf8", "\xf8\x88\x80\x80\x80", "\xfc\x84\x80\x80\x80\x80", "\xfe", "\xff", "\xffA",
		// too long for their sign
		"\xc0\x80", "\xc0\xbf", "\xc1\x80", "\xc1\xbf", "\xe0\x80\x80", "\xe0\x81\x81", "\xe0\x9f\xbf", "\xf0\x80\x80\x80", "\xf0\x80\x81\x81", "\xf0\x8f\xbf\xbf",
		// d800 to dfff
		"\xed\xa0\x80", "\xed\xa0\xbf", "\xed\xaf\xbf", "\xed\xb0\x80", "\xed\xbf\xbf",
		// above 10ffff
		"\xf4\x90\x80\x80", "\xf4\xbf\xbf\xbf", "\xf5\x80\x80\x80", "\xf7\xbf\xbf\xbf",
		// broken off
		"\xc2", "\xc3", "\xdf", "\xe0", "\xe2", "\xe2\x82", "\xef\xbf", "\xf0", "\xf0\x9f", "\xf0\x9f\x98", "\xf4\x8f\xbf",
		// broken off by something else
		"\xc3A", "\xc3\xc3\xa9", "\xc3\x00", "\xe2A\xac", "\xe2\x82A", "\xe2\x82\xe2", "\xe2\xc2\xac", "\xf0A\x98\x80", "\xf0\x9fA\x80", "\xf0\x9f\x98A", "\xf0\x9f\x98\xc0", "\xf0\x9f\xff\x80",
	}
}

func wantNext(t *testing.T, b []byte, sign, n int) {
	if s, m := utf.Next(b); s != sign || m != n {
		t.Fatalf("Next(% x): %x, %d; want %x, %d", b, s, m, sign, n)
	}
}

// P1.1: each sign's bytes, whatever is behind them, and each beginning of them, whatever is behind its end.
func TestNextOfEachSign(t *testing.T) {
	behind := []string{"", "A", "\x00", "\x80", "\xbf", "\xc3\xa9", "\xff"}
	for sign := 0; sign <= topSign; sign++ {
		if !isSign(sign) {
			continue
		}
		b := spell(sign)
		wantNext(t, b, sign, len(b))
		wantNext(t, append(b, behind[sign%len(behind)]...), sign, len(b))
		for n := range b {
			wantNext(t, b[:n], -1, 0)
		}
	}
	for _, sign := range edges() {
		for _, s := range behind {
			b := spell(sign)
			wantNext(t, append(b, s...), sign, len(b))
		}
	}
}

// P1.1: bytes with which none begins.
func TestNextOfNoSign(t *testing.T) {
	wantNext(t, nil, -1, 0)
	wantNext(t, []byte{}, -1, 0)
	for _, s := range noSigns() {
		wantNext(t, []byte(s), -1, 0)
		wantNext(t, []byte(s+"\xff"), -1, 0)
	}
	for sign := 0xd800; sign <= 0xdfff; sign++ {
		wantNext(t, spell(sign), -1, 0)
	}
	for sign := topSign + 1; sign < 1<<21; sign += 0x3ff {
		wantNext(t, spell(sign), -1, 0)
	}
}

// P1.1: all bytes up to three, and four of which the last three are taken from the edges.
func TestNextOfAllBytes(t *testing.T) {
	check := func(b []byte) {
		sign, n := -1, 0
		if r, m := utf8.DecodeRune(b); r != utf8.RuneError || m > 1 {
			sign, n = int(r), m
		}
		wantNext(t, b, sign, n)
	}
	for i := range 1 << 8 {
		check([]byte{byte(i)})
	}
	for i := range 1 << 16 {
		check([]byte{byte(i >> 8), byte(i)})
	}
	three := make([]byte, 3)
	for i := range 1 << 24 {
		three[0], three[1], three[2] = byte(i>>16), byte(i>>8), byte(i)
		check(three)
	}
	some := []byte{0, 0x41, 0x7f, 0x80, 0x81, 0x8f, 0x90, 0x9f, 0xa0, 0xbf, 0xc0, 0xc2, 0xe0, 0xed, 0xf4, 0xff}
	for i := range 1 << 8 {
		for j := range 1 << 12 {
			check([]byte{byte(i), some[j>>8], some[j>>4&15], some[j&15]})
		}
	}
}

// P1.2: each sign's bytes.
func TestBytesOfEachSign(t *testing.T) {
	for sign := 0; sign <= topSign; sign++ {
		if !isSign(sign) {
			continue
		}
		b, e := utf.Bytes(sign)
		if e != api.OK || !bytes.Equal(b, spell(sign)) || !bytes.Equal(b, []byte(string(rune(sign)))) {
			t.Fatalf("Bytes(%x): % x, %d", sign, b, e)
		}
	}
}

// P1.2: numbers that are no signs.
func TestBytesOfNoSign(t *testing.T) {
	l := []int{-1, -2, -0x41, -0x80, -0xd800, topSign + 1, topSign + 2, 0x1fffff, 0x7fffffff, math.MinInt, math.MinInt + 0x41, math.MinInt32, math.MaxInt, math.MaxInt32, math.MaxInt - 1}
	for n := 0xd800; n <= 0xdfff; n++ {
		l = append(l, n)
	}
	for shift := 21; shift < bits.UintSize; shift++ { // their lower bits are those of signs
		l = append(l, 1<<shift, 1<<shift|0x41, 1<<shift|0xe9, 1<<shift|0x20ac, 1<<shift|0x1f600)
	}
	for _, n := range l {
		if b, e := utf.Bytes(n); e != api.ErrArg || len(b) != 0 {
			t.Errorf("Bytes(%x): % x, %d", n, b, e)
		}
	}
}

// wantText holds what Text, Signs and Bad say of bytes against what they must.
func wantText(t *testing.T, b []byte, bad int, signs []int) {
	t.Helper()
	if n := utf.Bad(b); n != bad {
		t.Fatalf("Bad(% x): %d; want %d", b, n, bad)
	}
	is := bad == len(b)
	if utf.Text(b) != is {
		t.Fatalf("Text(% x): %t", b, !is)
	}
	l, e := utf.Signs(b)
	if is && (e != api.OK || !slices.Equal(l, signs)) {
		t.Fatalf("Signs(% x): %x, %d; want %x", b, l, e, signs)
	}
	if !is && (e != api.ErrText || len(l) != 0) {
		t.Fatalf("Signs(% x): %x, %d; want ErrText alone", b, l, e)
	}
}

// P1.3: nothing, ordinary texts, and rows of the edges.
func TestTexts(t *testing.T) {
	wantText(t, nil, 0, nil)
	wantText(t, []byte{}, 0, nil)
	wantText(t, []byte{0}, 1, []int{0})
	wantText(t, []byte("package p\n"), 10, []int{'p', 'a', 'c', 'k', 'a', 'g', 'e', ' ', 'p', '\n'})
	wantText(t, []byte("a\xc3\xa9\xe2\x82\xac\xf0\x9f\x98\x80z"), 11, []int{'a', 0xe9, 0x20ac, 0x1f600, 'z'})
	for _, x := range edges() {
		for _, y := range edges() {
			b := slices.Concat(spell(x), spell(y), spell(x))
			wantText(t, b, len(b), []int{x, y, x})
		}
	}
}

// P1.3: what is no text: ahead of, between and behind signs.
func TestNoTexts(t *testing.T) {
	for _, s := range noSigns() {
		wantText(t, []byte(s), 0, nil)
		wantText(t, []byte(s+"x"), 0, nil)
		for _, x := range edges() {
			b := spell(x)
			wantText(t, append(b, s...), len(b), nil)
			wantText(t, append(append(b, s...), "\xffx"...), len(b), nil)
			wantText(t, slices.Concat(b, b, []byte(s)), 2*len(b), nil)
		}
	}
	for _, x := range edges() {
		b := slices.Concat([]byte("ab"), spell(x))
		for n := 3; n < len(b); n++ {
			wantText(t, b[:n], 2, nil)
		}
	}
}

// P1.3: all bytes up to two, and all that the edges and wrong bytes make in rows of three.
func TestTextOfAllBytes(t *testing.T) {
	check := func(b []byte) {
		bad, signs := 0, []int(nil)
		for bad < len(b) {
			r, n := utf8.DecodeRune(b[bad:])
			if r == utf8.RuneError && n == 1 {
				break
			}
			bad += n
			signs = append(signs, int(r))
		}
		wantText(t, b, bad, signs)
	}
	for i := range 1 << 16 {
		check([]byte{byte(i >> 8), byte(i)})
	}
	parts := noSigns()
	for _, x := range edges() {
		parts = append(parts, string(spell(x)))
	}
	for _, x := range parts {
		for _, y := range parts {
			for _, z := range parts {
				check([]byte(x + y + z))
			}
		}
	}
}

// P1.4: the bytes of signs are a text of just these signs, however many they are, and a text's signs have just its bytes.
func TestThereAndBack(t *testing.T) {
	var signs []int
	var text []byte
	for sign := 0; sign <= topSign; sign++ {
		if !isSign(sign) {
			continue
		}
		b, e := utf.Bytes(sign)
		if e != api.OK {
			t.Fatalf("Bytes(%x): %d", sign, e)
		}
		wantText(t, b, len(b), []int{sign})
		signs = append(signs, sign)
		text = append(text, b...)
	}
	if len(signs) != 0x110000-0x800 {
		t.Fatalf("%d signs", len(signs))
	}
	got, e := utf.Signs(text)
	if e != api.OK || !slices.Equal(got, signs) || !utf.Text(text) || utf.Bad(text) != len(text) {
		t.Fatal("all signs in a row")
	}
	var back []byte
	for _, sign := range got {
		b, _ := utf.Bytes(sign)
		back = append(back, b...)
	}
	if !bytes.Equal(back, text) {
		t.Fatal("the bytes of a text's signs are other ones")
	}
	broken := append(text, 0x80)
	if l, e := utf.Signs(broken); e != api.ErrText || len(l) != 0 || utf.Text(broken) || utf.Bad(broken) != len(text) {
		t.Fatal("all signs in a row, and then none")
	}
}

// P1.4: b isn't changed, nor the room behind its end, and that room isn't read as b.
func TestArgumentsStay(t *testing.T) {
	for _, s := range append(noSigns(), "", "a\xc3\xa9\xe2\x82\xac\xf0\x9f\x98\x80z") {
		whole := []byte(s + "\x82\xac tail")
		want := bytes.Clone(whole)
		for n := range whole {
			b := whole[:n]
			alone := slices.Clip(bytes.Clone(b))
			sign, length := utf.Next(alone)
			wantNext(t, b, sign, length)
			signs, _ := utf.Signs(alone)
			wantText(t, b, utf.Bad(alone), signs)
			if !bytes.Equal(whole, want) {
				t.Fatalf("%q became %q", want, whole)
			}
		}
	}
}

// P1.4: answers are new memory: what is done to one is not seen in b, nor in another answer.
func TestAnswersAreNew(t *testing.T) {
	for _, sign := range edges() {
		first, _ := utf.Bytes(sign)
		for i := range first[:cap(first)] {
			first[:cap(first)][i] = 0xff
		}
		second, e := utf.Bytes(sign)
		if e != api.OK || !bytes.Equal(second, spell(sign)) {
			t.Fatalf("Bytes(%x) again: % x, %d", sign, second, e)
		}
		for _, other := range edges() {
			utf.Bytes(other)
		}
		if !bytes.Equal(second, spell(sign)) {
			t.Fatalf("Bytes(%x) became % x", sign, second)
		}
	}
	b := []byte("a\xc3\xa9\xe2\x82\xac")
	first, _ := utf.Signs(b)
	for i := range first[:cap(first)] {
		first[:cap(first)][i] = -1
	}
	second, _ := utf.Signs(b)
	utf.Signs([]byte("zzzzzz"))
	clear(b)
	if want := []int{'a', 0xe9, 0x20ac}; !slices.Equal(second, want) {
		t.Fatalf("Signs became %x; want %x", second, want)
	}
}
