package fcc_test

import (
	"bytes"
	"fmt"
	"strings"
	"testing"

	"tinder/api"
	"tinder/fcc"
	"tinder/head"
	"tinder/token"
)

// told: tokens in a short form: the code in hexadecimal digits, and what isn't zero behind it: a quoted text, = and a number in hexadecimal digits, an offset with its sign.
func told(l []api.Tok) string {
	var all []string
	for _, x := range l {
		s := fmt.Sprintf("%x", x.Code)
		if x.Text != "" {
			s += fmt.Sprintf("%q", x.Text)
		}
		if x.N != 0 {
			s += fmt.Sprintf("=%x", x.N)
		}
		if x.Off != 0 {
			s += fmt.Sprintf("%+d", x.Off)
		}
		all = append(all, s)
	}
	return strings.Join(all, " ")
}

// program: of tokens, made by the layers below alone.
func program(t *testing.T, l []api.Tok) ([]byte, api.Errno) {
	t.Helper()
	body, e := token.Encode(l, true)
	if e == api.ErrToken {
		t.Fatalf("%s are no tokens", told(l))
	}
	if e != api.OK {
		return nil, e
	}
	return head.Make(body, true)
}

// compiled: that both calls come through; the tokens.
func compiled(t *testing.T, text string) []api.Tok {
	t.Helper()
	l, e := fcc.Tokens(text)
	if e != api.OK {
		t.Fatalf("%.200q: %v", text, e)
	}
	want, wantE := program(t, l)
	b, e := fcc.Compile(text)
	if e != wantE || !bytes.Equal(b, want) {
		t.Fatalf("%.200q: %.60x, %v; want %.60x, %v", text, b, e, want, wantE)
	}
	right(t, text, l)
	return l
}

// gives: that a text comes to these tokens, in the short form, the 0 behind all not told.
func gives(t *testing.T, text, want string) {
	t.Helper()
	if got := told(compiled(t, text)); got != strings.TrimPrefix(want+" 0", " ") {
		t.Errorf("%q: %s; want %s 0", text, got, want)
	}
}

// errs: that both calls refuse a text, and answer nothing else.
func errs(t *testing.T, text string, want api.Errno) {
	t.Helper()
	if l, e := fcc.Tokens(text); e != want || len(l) != 0 {
		t.Errorf("Tokens(%.200q): %s, %v; want %v", text, told(l), e, want)
	}
	if b, e := fcc.Compile(text); e != want || len(b) != 0 {
		t.Errorf("Compile(%.200q): %x, %v; want %v", text, b, e, want)
	}
}

// withOffset: has the code an offset behind it?
func withOffset(code int) bool {
	switch code {
	case 0x13, 0x14, 0x15, 0x16, 0x17, 0x18, 0x1c, 0xc6:
		return true
	}
	return false
}

// places: of each token the place of its first byte, and behind them the end.
func places(l []api.Tok) []int {
	at := []int{0}
	for i, x := range l {
		b, _ := token.Encode([]api.Tok{x}, true)
		at = append(at, at[i]+len(b))
	}
	return at
}

// right, P15.2: each offset leads to where a token begins, or to the end; each code that isn't layer 9's was defined ahead; the 0 is the last one, and no other is.
func right(t *testing.T, text string, l []api.Tok) {
	t.Helper()
	at := places(l)
	begins := map[int]bool{}
	for _, place := range at {
		begins[place] = true
	}
	known := firstWords()
	named := 0 // the code of the newest name
	for i, x := range l {
		if withOffset(x.Code) && !begins[at[i]+1+x.Off] {
			t.Fatalf("%.200q: %s: the offset of number %d leads into a token", text, told(l), i)
		}
		if (x.Code == 0) != (i == len(l)-1) {
			t.Fatalf("%.200q: %s: number %d", text, told(l), i)
		}
		if x.Code >= 0x800 && !known[x.Code] || (x.Code == 0x11 || x.Code == 0xc3) && !known[int(x.N)] {
			t.Fatalf("%.200q: %s: the code of number %d isn't known there", text, told(l), i)
		}
		switch x.Code {
		case 0xb6:
			named = int(x.N)
		case 0xb8, 0xb9, 0xba, 0xbc, 0xbd, 0xc2:
			known[named] = true
		}
	}
}

// firstWords: the codes of layer 9's words.
func firstWords() map[int]bool {
	codes := map[int]bool{}
	for _, code := range chapterCodes {
		codes[code] = true
	}
	return codes
}

var chapterCodes = chapterWords()

// chapterWords: layer 9's words with their codes, as its chapter tells them.
func chapterWords() map[string]int {
	l := strings.Fields(`i 19 j 1a execute 1d + 1e - 1f * 20 / 21 mod 22 and 23 or 24 xor 25 invert 26 lshift 27 rshift 28
		>>a 29 /mod 2a u/mod 2b negate 2c abs 2d min 2e max 2f >r 30 r> 31 r@ 32 0= 34 0<> 35 0< 36 0<= 37 0> 38 0>= 39
		< 3a > 3b = 3c <> 3d u> 3e u<= 3f u< 40 u>= 41 >= 42 <= 43 drop 46 dup 47 over 48 swap 49 rot 4a -rot 4b
		tuck 4c nip 4d pick 4e roll 4f ?dup 50 depth 51 2drop 52 2dup 53 2over 54 2swap 55 2rot 56 2/ 57 u2/ 58 2* 59
		+! 6c @ 6d w@ 6f c@ 71 ! 72 w! 74 c! 75 move 78 fill 79 comp 7a lbsplit 7e bljoin 7f wbflip 80 upc 81 lcc 82
		unloop 89 alloc-mem 8b emit 8f type 90 cr 92 u. 9b . 9d base! a0 -1 a4 0 a5 1 a6 2 a7 3 a8 bl a9 here ad
		um* d4 um/mod d5 d+ d8 d- d9 property 110 encode-int 111 encode+ 112 encode-string 114 new-device 11f
		finish-device 127 sm/rem 1d5 my-self 203 my-parent 20a $call-method 20e catch 217 throw 218
		get-my-property 21a decode-int 21b decode-string 21c delete-property 21e fm/mod 2d5`)
	codes := map[string]int{}
	for i := 0; i < len(l); i += 2 {
		var code int
		fmt.Sscanf(l[i+1], "%x", &code)
		codes[l[i]] = code
	}
	return codes
}
