package fcc

import (
	"slices"
	"testing"

	"tinder/api"
	"tinder/scan"
)

// No text is long enough to use up all codes: so the compiler is asked itself, with few of them left, or with more than a text holds.

// compileFrom: what a text was cut to, the next code being that one.
func compileFrom(l []api.Token, next int) ([]api.Tok, api.Errno) {
	c := compiler{left: l, codes: firstCodes(), next: next}
	e := c.compileAll()
	return c.tokens, e
}

// P15.1: the last code is fff; one more name is ErrMany, by each word that defines.
func TestLastCode(t *testing.T) {
	for _, text := range []string{"defer a", "variable a", "5 constant a", "5 value a", "5 buffer: a", "instance value a", ": a ;", ": a 5 if exit then ;"} {
		l, _ := scan.Cut(text)
		made, e := compileFrom(l, 0xfff)
		if e != api.OK || !slices.Contains(made, api.Tok{Code: 0xb6, Text: "a", N: 0xfff}) {
			t.Errorf("%q from fff: %x, %v", text, made, e)
		}
		if _, e := compileFrom(slices.Concat(l, l), 0xffe); e != api.OK {
			t.Errorf("%q twice from ffe: %v", text, e)
		}
		for _, more := range []string{text, "defer b", "variable b", "1 constant b", "1 value b", "buffer: b", "instance value b", ": b ;", ": b", ": b zz", "defer a zz", ": b : c"} {
			m, _ := scan.Cut(text + " a " + more)
			if _, e := compileFrom(m, 0xfff); e != api.ErrMany {
				t.Errorf("%q and %q from fff: %v", text, more, e)
			}
		}
		// A name that is none comes ahead of it, and so does all that stands ahead in the text.
		for more, want := range map[string]api.Errno{
			"defer": api.ErrText, ":": api.ErrText, `: " b"`: api.ErrText, "instance constant b": api.ErrText, "instance value": api.ErrText, "value \x80": api.ErrText,
			"zz defer b": api.ErrWord, "; : b ;": api.ErrControl, "a ' a": api.OK, ": b": api.ErrMany,
		} {
			m, _ := scan.Cut(text + " " + more)
			if _, e := compileFrom(m, 0xfff); e != want {
				t.Errorf("%q and %q from fff: %v; want %v", text, more, e, want)
			}
		}
	}
}

// P15.1: all codes from 800 to fff are given, one behind the other.
func TestAllCodes(t *testing.T) {
	one, _ := scan.Cut("defer a a : b a ; b")
	all := slices.Repeat(one, 1024)
	l, e := compileFrom(all, firstCode)
	if e != api.OK || len(l) != 1024*8+1 {
		t.Fatal(len(l), e)
	}
	for i := range uint32(1024) {
		a, b := 0x800+2*i, 0x801+2*i
		want := []api.Tok{{Code: 0xb6, Text: "a", N: a}, {Code: 0xbc}, {Code: int(a)}, {Code: 0xb6, Text: "b", N: b}, {Code: 0xb7}, {Code: int(a)}, {Code: 0xc2}, {Code: int(b)}}
		if got := l[8*i : 8*i+8]; !slices.Equal(got, want) {
			t.Fatalf("%x; want %x", got, want)
		}
	}
	if l[len(l)-1] != (api.Tok{}) {
		t.Error(l[len(l)-1])
	}
	for _, more := range []string{"defer a", ": a ;", "instance value b"} {
		m, _ := scan.Cut(more)
		if _, e := compileFrom(slices.Concat(all, m), firstCode); e != api.ErrMany {
			t.Errorf("%q behind all: %v", more, e)
		}
	}
	m, _ := scan.Cut("a b ' a to b : ; 5")
	if _, e := compileFrom(slices.Concat(all, m[:6]), firstCode); e != api.OK {
		t.Error(e)
	}
}
