package token_test

import (
	"bytes"
	"encoding/hex"
	"fmt"
	"math"
	"slices"
	"strings"
	"testing"

	"tinder/api"
	"tinder/token"
)

// row: the bytes that hexadecimal digits tell, blanks between them.
func row(digits string) []byte {
	b, err := hex.DecodeString(strings.ReplaceAll(digits, " ", ""))
	if err != nil {
		panic(err)
	}
	return b
}

// letters: a text of so many bytes of which none near another is like it.
func letters(n int) string {
	b := make([]byte, n)
	for i := range b {
		b[i] = byte(i % 251)
	}
	return string(b)
}

// told: tokens in hexadecimal digits, the first of them if they are many.
func told(tokens any) string {
	return fmt.Sprintf("%.300s", fmt.Sprintf("%x", tokens))
}

// taken: that tokens and bytes come to each other.
func taken(t *testing.T, l []api.Tok, b []byte, wide bool) {
	t.Helper()
	if got, e := token.Encode(l, wide); e != api.OK || !bytes.Equal(got, b) {
		t.Errorf("Encode(%s, %v): %.40x, %v; want %.40x", told(l), wide, got, e, b)
	}
	if got, e := token.Decode(b, wide); e != api.OK || !slices.Equal(got, l) {
		t.Errorf("Decode(%.40x, %v): %s, %v; want %s", b, wide, told(got), e, told(l))
	}
}

// takenAlone: that a token is one, alone and amid others, and has these bytes.
func takenAlone(t *testing.T, x api.Tok, b []byte, wide bool) {
	t.Helper()
	taken(t, []api.Tok{x}, b, wide)
	taken(t, []api.Tok{{Code: 0x47}, x, {Code: 0xf47}}, slices.Concat(row("47"), b, row("0f47")), wide)
	if n := token.Size(x, wide); n != len(b) {
		t.Errorf("Size(%s, %v): %d; want %d", told(x), wide, n, len(b))
	}
}

// noToken: that it is none, alone and amid others.
func noToken(t *testing.T, x api.Tok, wide bool) {
	t.Helper()
	for _, l := range [][]api.Tok{{x}, {x, {Code: 0x47}}, {{Code: 0x47}, {Code: 0x10, N: 1}, x}, {{Code: 0x201}, x, {}}} {
		if b, e := token.Encode(l, wide); e != api.ErrToken || len(b) != 0 {
			t.Errorf("Encode(%s, %v): %.40x, %v", told(l), wide, b, e)
		}
	}
	if n := token.Size(x, wide); n != 0 {
		t.Errorf("Size(%s, %v): %d", told(x), wide, n)
	}
}

// noBytes: that they are the bytes of no tokens, alone and behind others.
func noBytes(t *testing.T, b []byte, wide bool) {
	t.Helper()
	for _, ahead := range []string{"", "47", "10 00000001", "0201 00", "12 01 cc"} {
		all := slices.Concat(row(ahead), b)
		if l, e := token.Decode(all, wide); e != api.ErrToken || len(l) != 0 {
			t.Errorf("Decode(%.40x, %v): %s, %v", all, wide, told(l), e)
		}
	}
}

// P13.1: the examples of the chapter.
func TestExamples(t *testing.T) {
	taken(t, []api.Tok{{Code: 0x47}, {Code: 0x10, N: 1}, {Code: 0x201}}, row("47 10 00 00 00 01 02 01"), false)
	taken(t, []api.Tok{{Code: 0x13, Off: -2}}, row("13 fe"), false)
	noBytes(t, row("13 fe"), true)
	for _, wide := range []bool{false, true} {
		noBytes(t, row("05"), wide)
		noBytes(t, row("0f"), wide)
		taken(t, []api.Tok{{Code: 0xf47}}, row("0f 47"), wide)
	}
}

// A sample is a token with its bytes in hexadecimal digits, narrow and wide.
type sample struct {
	tok          api.Tok
	narrow, wide string
}

// bytes: in the one way or the other.
func (s sample) bytes(wide bool) []byte {
	if wide {
		return row(s.wide)
	}
	return row(s.narrow)
}

// samples: of each row of the chapter's table, each code of it at least once.
func samples() []sample {
	l := []sample{
		{api.Tok{Code: 0x10, N: 0x12345678}, "10 12345678", "10 12345678"},
		{api.Tok{Code: 0x10}, "10 00000000", "10 00000000"},
		{api.Tok{Code: 0x11, N: 0x47}, "11 47", "11 47"},
		{api.Tok{Code: 0x11, N: 0x801}, "11 0801", "11 0801"},
		{api.Tok{Code: 0x11}, "11 00", "11 00"},
		{api.Tok{Code: 0xc3, N: 0xcc}, "c3 cc", "c3 cc"},
		{api.Tok{Code: 0xc3, N: 0xfff}, "c3 0fff", "c3 0fff"},
		{api.Tok{Code: 0x12, Text: "ab"}, "12 02 6162", "12 02 6162"},
		{api.Tok{Code: 0x12, Text: "\x00\xcc\xff"}, "12 03 00ccff", "12 03 00ccff"},
		{api.Tok{Code: 0x12}, "12 00", "12 00"},
		{api.Tok{Code: 0xb5, N: 0x801}, "b5 0801", "b5 0801"},
		{api.Tok{Code: 0xb6, Text: "x", N: 0xabc}, "b6 01 78 0abc", "b6 01 78 0abc"},
		{api.Tok{Code: 0xb6, N: 0x800}, "b6 00 0800", "b6 00 0800"},
		{api.Tok{Code: 0xca, Text: "dup", N: 0xfff}, "ca 03 647570 0fff", "ca 03 647570 0fff"},
		{api.Tok{Code: 0xca, Text: "A b\n", N: 0x900}, "ca 04 4120620a 0900", "ca 04 4120620a 0900"},
		{api.Tok{}, "00", "00"},
		{api.Tok{Code: 0x19}, "19", "19"},
		{api.Tok{Code: 0xff}, "ff", "ff"},
		{api.Tok{Code: 0x100}, "0100", "0100"},
		{api.Tok{Code: 0xfff}, "0fff", "0fff"},
		{api.Tok{Code: 0x110}, "0110", "0110"},
		{api.Tok{Code: 0xcc}, "cc", "cc"},
	}
	for _, c := range offsetCodes() {
		code := hex.EncodeToString([]byte{byte(c)})
		l = append(l,
			sample{api.Tok{Code: c}, code + "00", code + "0000"},
			sample{api.Tok{Code: c, Off: 5}, code + "05", code + "0005"},
			sample{api.Tok{Code: c, Off: -2}, code + "fe", code + "fffe"})
	}
	return l
}

// offsetCodes: those with an offset.
func offsetCodes() []int {
	return []int{0x13, 0x14, 0x15, 0x16, 0x17, 0x18, 0x1c, 0xc6}
}

// P13.1: each row of the chapter's table, in both ways.
func TestTable(t *testing.T) {
	for _, s := range samples() {
		for _, wide := range []bool{false, true} {
			takenAlone(t, s.tok, s.bytes(wide), wide)
		}
	}
}

// P13.1: all rows one behind the other, in two orders.
func TestTableInARow(t *testing.T) {
	for _, wide := range []bool{false, true} {
		l := slices.DeleteFunc(samples(), func(s sample) bool { return s.tok.Code == 0xcc })
		for range 2 {
			var toks []api.Tok
			var b []byte
			for _, s := range l {
				toks, b = append(toks, s.tok), append(b, s.bytes(wide)...)
			}
			taken(t, toks, b, wide)
			slices.Reverse(l)
		}
	}
}

// P13.1: no tokens, no bytes.
func TestNothing(t *testing.T) {
	for _, wide := range []bool{false, true} {
		taken(t, nil, nil, wide)
		taken(t, []api.Tok{}, []byte{}, wide)
	}
}

// least: the token of a code, with the least that must stand behind it.
func least(code int) api.Tok {
	x := api.Tok{Code: code}
	switch code {
	case 0xb5, 0xb6, 0xca:
		x.N = 0x800
	}
	return x
}

// P13.1: each code that there is, with the least that stands behind it, and numbers around them that are none.
func TestCodes(t *testing.T) {
	for code := -0x200; code < 0x1200; code++ {
		for _, wide := range []bool{false, true} {
			x := least(code)
			if code < 0 || code > 0 && code < 0x10 || code > 0xfff {
				noToken(t, x, wide)
				continue
			}
			b := []byte{byte(code >> 8), byte(code)}
			if code < 0x100 {
				b = b[1:]
			}
			switch code {
			case 0x10:
				b = append(b, 0, 0, 0, 0)
			case 0x11, 0x12, 0xc3:
				b = append(b, 0)
			case 0x13, 0x14, 0x15, 0x16, 0x17, 0x18, 0x1c, 0xc6:
				b = append(b, 0)
				if wide {
					b = append(b, 0)
				}
			case 0xb5:
				b = append(b, 8, 0)
			case 0xb6, 0xca:
				b = append(b, 0, 8, 0)
			}
			takenAlone(t, x, b, wide)
		}
	}
	for _, code := range []int{math.MinInt, -1 << 32, -0xfb9, 0x10000, 0x10047, 1 << 31, 1 << 32, 1<<32 + 0x47, math.MaxInt} {
		noToken(t, api.Tok{Code: code}, false)
		noToken(t, api.Tok{Code: code}, true)
	}
}

// P13.1: each first byte that is no code stands for a code with the byte behind it, whichever that is.
func TestCodesOfTwoBytes(t *testing.T) {
	for high := 1; high <= 0xf; high++ {
		for low := range 256 {
			takenAlone(t, api.Tok{Code: high<<8 | low}, []byte{byte(high), byte(low)}, false)
		}
	}
	taken(t, []api.Tok{{}, {Code: 0x10, N: 0xff}}, row("00 10 000000ff"), false)
	taken(t, []api.Tok{{}, {Code: 0x105}, {Code: 0x547}}, row("00 0105 0547"), false)
}

// P13.1: a code of two bytes without its second one, also behind 11 and c3.
func TestCodeWithoutSecondByte(t *testing.T) {
	for high := 1; high <= 0xf; high++ {
		for _, wide := range []bool{false, true} {
			noBytes(t, []byte{byte(high)}, wide)
			noBytes(t, []byte{0x11, byte(high)}, wide)
			noBytes(t, []byte{0xc3, byte(high)}, wide)
			noBytes(t, []byte{0x08, 0x01, byte(high)}, wide)
		}
	}
}

// P13.1: any number stands behind 10.
func TestNumbers(t *testing.T) {
	for n, digits := range map[uint32]string{
		0:          "00000000",
		1:          "00000001",
		0xff:       "000000ff",
		0x100:      "00000100",
		0x1234:     "00001234",
		0x10000:    "00010000",
		0x01020304: "01020304",
		0x7fffffff: "7fffffff",
		0x80000000: "80000000",
		0xfedcba98: "fedcba98",
		0xffffffff: "ffffffff",
	} {
		takenAlone(t, api.Tok{Code: 0x10, N: n}, row("10"+digits), false)
		takenAlone(t, api.Tok{Code: 0x10, N: n}, row("10"+digits), true)
	}
}

// P13.1: a code and nothing else stands behind 11 and c3, in its own bytes.
func TestCodesBehind(t *testing.T) {
	for _, code := range []byte{0x11, 0xc3} {
		for n := range uint32(0x1200) {
			x := api.Tok{Code: int(code), N: n}
			switch {
			case n > 0 && n < 0x10 || n > 0xfff:
				noToken(t, x, n%2 == 0)
			case n <= 0xff:
				takenAlone(t, x, []byte{code, byte(n)}, n%2 == 0)
			default:
				takenAlone(t, x, []byte{code, byte(n >> 8), byte(n)}, n%2 == 0)
			}
		}
		for _, n := range []uint32{0x10000, 0x10047, 0x7fffffff, 0x80000000, 0x80000047, 0xfffffff0, 0xffffffff} {
			noToken(t, api.Tok{Code: int(code), N: n}, false)
		}
	}
}

// P13.1: texts of each length, up to 255 bytes.
func TestTexts(t *testing.T) {
	for n := range 600 {
		x := api.Tok{Code: 0x12, Text: letters(n)}
		if n > 255 {
			noToken(t, x, n%2 == 0)
			continue
		}
		takenAlone(t, x, append([]byte{0x12, byte(n)}, x.Text...), n%2 == 0)
	}
	noToken(t, api.Tok{Code: 0x12, Text: letters(1 << 20)}, false)
}

// P13.1: names of each length, up to 31 bytes, which may be any.
func TestNames(t *testing.T) {
	for _, code := range []byte{0xb6, 0xca} {
		for n := range 600 {
			x := api.Tok{Code: int(code), Text: letters(n), N: 0x802}
			b := slices.Concat([]byte{code, byte(n)}, []byte(x.Text), row("0802"))
			if n <= 31 {
				takenAlone(t, x, b, n%2 == 0)
				continue
			}
			noToken(t, x, n%2 == 0)
			if n <= 255 {
				noBytes(t, b, n%2 == 0)
			}
		}
	}
}

// P13.1: the codes behind b5, b6 and ca are from 800 to fff.
func TestWordCodes(t *testing.T) {
	numbers := []uint32{0x10800, 0x10fff, 0x80000800, 0xfffff800, 0xffffffff, 0xffff, 0x8000}
	for n := range uint32(0x1200) {
		numbers = append(numbers, n)
	}
	for _, n := range numbers {
		two := []byte{byte(n >> 8), byte(n)}
		for x, b := range map[api.Tok][]byte{
			{Code: 0xb5, N: n}:              slices.Concat(row("b5"), two),
			{Code: 0xb6, N: n}:              slices.Concat(row("b600"), two),
			{Code: 0xb6, N: n, Text: "xy"}:  slices.Concat(row("b6027879"), two),
			{Code: 0xca, N: n}:              slices.Concat(row("ca00"), two),
			{Code: 0xca, N: n, Text: "(x)"}: slices.Concat(row("ca03287829"), two),
		} {
			if n >= 0x800 && n <= 0xfff {
				takenAlone(t, x, b, n%2 == 0)
				continue
			}
			noToken(t, x, n%2 == 0)
			if n <= 0xffff {
				noBytes(t, b, n%2 == 0)
			}
		}
	}
}

// P13.1: offsets, narrow and wide, at their edges and beyond; a code's offset hangs on nothing else.
func TestOffsets(t *testing.T) {
	offsets := []int{math.MinInt, -1 << 32, -1 << 31, -65536, -65535, -40000, -32769, -32768, -32767, -257, -256, -255, -129, -128, -127, -2, -1,
		0, 1, 2, 126, 127, 128, 129, 255, 256, 257, 300, 32766, 32767, 32768, 32769, 65535, 65536, 65537, 1 << 31, 1 << 32, 1<<32 + 1, math.MaxInt}
	for _, code := range offsetCodes() {
		for _, off := range offsets {
			x := api.Tok{Code: code, Off: off}
			if off < -128 || off > 127 {
				noToken(t, x, false)
			} else {
				takenAlone(t, x, []byte{byte(code), byte(off)}, false)
			}
			if off < -32768 || off > 32767 {
				noToken(t, x, true)
			} else {
				takenAlone(t, x, []byte{byte(code), byte(off >> 8), byte(off)}, true)
			}
		}
	}
}

// P13.1: behind a cc offsets are wide, ahead of it they are as was said.
func TestOffsetsBehindWider(t *testing.T) {
	for _, code := range offsetCodes() {
		c := hex.EncodeToString([]byte{byte(code)})
		taken(t, []api.Tok{{Code: code, Off: -3}, {Code: 0xcc}, {Code: code, Off: -3}}, row(c+"fd cc"+c+"fffd"), false)
		taken(t, []api.Tok{{Code: code, Off: -3}, {Code: 0xcc}, {Code: code, Off: -3}}, row(c+"fffd cc"+c+"fffd"), true)
		taken(t, []api.Tok{{Code: 0xcc}, {Code: 0x47}, {Code: code, Off: 32767}, {Code: code, Off: -32768}}, row("cc 47"+c+"7fff"+c+"8000"), false)
		taken(t, []api.Tok{{Code: code, Off: 127}, {Code: code, Off: -128}, {Code: 0xcc}, {Code: code, Off: 128}, {Code: 0xcc}, {Code: code, Off: -129}}, row(c+"7f"+c+"80 cc"+c+"0080 cc"+c+"ff7f"), false)
		taken(t, []api.Tok{{Code: code, Off: 128}, {Code: 0xcc}, {Code: code, Off: 128}}, row(c+"0080 cc"+c+"0080"), true)
		for _, l := range [][]api.Tok{
			{{Code: code, Off: 128}, {Code: 0xcc}},
			{{Code: code, Off: -129}, {Code: 0xcc}, {Code: code}},
			{{Code: 0xcc}, {Code: code, Off: 32768}},
			{{Code: 0xcc}, {Code: 0xcc}, {Code: code, Off: -32769}},
		} {
			if b, e := token.Encode(l, false); e != api.ErrToken || len(b) != 0 {
				t.Errorf("Encode(%s): %x, %v", told(l), b, e)
			}
		}
		for _, digits := range []string{"cc" + c + "05", c + "05 cc" + c + "05", "cc 47" + c, "cc cc" + c + "00"} {
			if l, e := token.Decode(row(digits), false); e != api.ErrToken || len(l) != 0 {
				t.Errorf("Decode(%s): %s, %v", digits, told(l), e)
			}
		}
	}
}

// P13.1: only the token cc makes offsets wide, not a cc that stands behind another code or in another one.
func TestWhatWidensNot(t *testing.T) {
	for _, s := range []sample{
		{tok: api.Tok{Code: 0x11, N: 0xcc}, narrow: "11 cc"},
		{tok: api.Tok{Code: 0xc3, N: 0xcc}, narrow: "c3 cc"},
		{tok: api.Tok{Code: 0x10, N: 0xcc}, narrow: "10 000000cc"},
		{tok: api.Tok{Code: 0x12, Text: "\xcc"}, narrow: "12 01 cc"},
		{tok: api.Tok{Code: 0x13, Off: -52}, narrow: "13 cc"},
		{tok: api.Tok{Code: 0xb5, N: 0x8cc}, narrow: "b5 08cc"},
		{tok: api.Tok{Code: 0xb6, Text: "\xcc", N: 0xccc}, narrow: "b6 01 cc 0ccc"},
		{tok: api.Tok{Code: 0x1cc}, narrow: "01cc"},
		{tok: api.Tok{Code: 0xfcc}, narrow: "0fcc"},
		{tok: api.Tok{}, narrow: "00"},
		{tok: api.Tok{Code: 0xff}, narrow: "ff"},
		{tok: api.Tok{Code: 0xf1}, narrow: "f1"},
	} {
		taken(t, []api.Tok{s.tok, {Code: 0x14, Off: -1}}, slices.Concat(row(s.narrow), row("14 ff")), false)
		if b, e := token.Encode([]api.Tok{s.tok, {Code: 0x14, Off: 128}}, false); e != api.ErrToken || len(b) != 0 {
			t.Errorf("%s: %x, %v", told(s.tok), b, e)
		}
	}
}

// P13.1: nothing but a code's own fields may be other than zero, whichever row of the table it is of.
func TestFieldsThatMustBeZero(t *testing.T) {
	for _, s := range samples() {
		wrong := map[string][]api.Tok{}
		for _, n := range []uint32{1, 0x47, 0x800, 0xffffffff} {
			x := s.tok
			x.N = n
			wrong["N"] = append(wrong["N"], x)
		}
		for _, text := range []string{"a", "\x00", letters(31), letters(300)} {
			x := s.tok
			x.Text = text
			wrong["Text"] = append(wrong["Text"], x)
		}
		for _, off := range []int{1, -1, 127, 1 << 20, math.MinInt} {
			x := s.tok
			x.Off = off
			wrong["Off"] = append(wrong["Off"], x)
		}
		switch s.tok.Code {
		case 0x10, 0x11, 0xc3, 0xb5:
			delete(wrong, "N")
		case 0x12:
			delete(wrong, "Text")
		case 0xb6, 0xca:
			delete(wrong, "N")
			delete(wrong, "Text")
		case 0x13, 0x14, 0x15, 0x16, 0x17, 0x18, 0x1c, 0xc6:
			delete(wrong, "Off")
		}
		for _, l := range wrong {
			for _, x := range l {
				noToken(t, x, false)
				noToken(t, x, true)
			}
		}
	}
}

// P13.1: bytes that end in the middle of a token, at each place of it, whatever stands ahead.
func TestCutTokens(t *testing.T) {
	l := samples()
	long := append(row("12ff"), letters(255)...)
	l = append(l, sample{narrow: hex.EncodeToString(long), wide: hex.EncodeToString(long)})
	name := slices.Concat(row("b61f"), []byte(letters(31)), row("0fff"))
	l = append(l, sample{narrow: hex.EncodeToString(name), wide: hex.EncodeToString(name)})
	for _, s := range l {
		for _, wide := range []bool{false, true} {
			b := s.bytes(wide)
			for n := 1; n < len(b); n++ {
				noBytes(t, b[:n], wide)
				// With the rest in its spare room, and without it.
				noBytes(t, slices.Clip(slices.Clone(b[:n])), wide)
			}
		}
	}
}

// P13.1: as many bytes as a program may have, and one more, of each kind of token.
func TestLimit(t *testing.T) {
	for _, s := range samples() {
		for _, wide := range []bool{false, true} {
			if s.tok.Code == 0xcc {
				continue
			}
			one := s.bytes(wide)
			// Filled up ahead by tokens of one byte, so that the last one ends just at the limit.
			ahead := make([]api.Tok, api.MaxFCode-len(one))
			full := slices.Clip(append(slices.Clone(ahead), s.tok))
			taken(t, full, slices.Concat(make([]byte, len(ahead)), one), wide)
			for _, l := range [][]api.Tok{append(ahead, api.Tok{}, s.tok), append(full, api.Tok{}), append(full, s.tok)} {
				if b, e := token.Encode(l, wide); e != api.ErrLong || len(b) != 0 {
					t.Errorf("Encode of %s past the limit: %d bytes, %v", told(s.tok), len(b), e)
				}
			}
		}
	}
	for n, want := range map[int]api.Errno{8191: api.OK, 8192: api.OK, 8193: api.ErrLong, 8194: api.ErrLong, 20000: api.ErrLong, 1 << 20: api.ErrLong} {
		l, e := token.Decode(bytes.Repeat([]byte{0x47}, n), false)
		if e != want || e == api.OK && len(l) != n || e != api.OK && len(l) != 0 {
			t.Errorf("Decode of %d bytes: %d tokens, %v", n, len(l), e)
		}
		b, e := token.Encode(slices.Repeat([]api.Tok{{Code: 0x47}}, n), true)
		if e != want || e == api.OK && len(b) != n || e != api.OK && len(b) != 0 {
			t.Errorf("Encode of %d tokens: %d bytes, %v", n, len(b), e)
		}
	}
}

// P13.1: the limit is one of bytes, not of tokens.
func TestLimitIsOfBytes(t *testing.T) {
	texts := slices.Repeat([]api.Tok{{Code: 0x12, Text: letters(254)}}, 32)
	if b, e := token.Encode(texts, false); e != api.OK || len(b) != 8192 {
		t.Errorf("32 texts: %d bytes, %v", len(b), e)
	}
	texts[31].Text = letters(255)
	if b, e := token.Encode(texts, false); e != api.ErrLong || len(b) != 0 {
		t.Errorf("32 texts, one longer: %d bytes, %v", len(b), e)
	}
	twos := slices.Repeat([]api.Tok{{Code: 0x200}}, 4096)
	if b, e := token.Encode(twos, false); e != api.OK || len(b) != 8192 {
		t.Errorf("4096 codes of two bytes: %d bytes, %v", len(b), e)
	}
	if b, e := token.Encode(append(twos, api.Tok{}), false); e != api.ErrLong || len(b) != 0 {
		t.Errorf("and one of one byte: %d bytes, %v", len(b), e)
	}
}

// P13.1, P1: a token that is none comes ahead of too many bytes, wherever it stands.
func TestTokenAheadOfLong(t *testing.T) {
	for _, wrong := range []api.Tok{{Code: 5}, {Code: -1}, {Code: 0x47, N: 1}, {Code: 0x13, Off: 128}, {Code: 0xb5}, {Code: 0x12, Text: letters(256)}} {
		for _, at := range []int{0, 1, 4000, 8191, 8192, 8193, 8194, 9999, 10000} {
			l := slices.Repeat([]api.Tok{{Code: 0x47}}, 10000)
			if b, e := token.Encode(slices.Insert(l, at, wrong), false); e != api.ErrToken || len(b) != 0 {
				t.Errorf("%s at %d: %d bytes, %v", told(wrong), at, len(b), e)
			}
		}
	}
}

// P13.1, P1: a cc past the limit still says what the tokens behind it are.
func TestWiderPastTheLimit(t *testing.T) {
	for _, n := range []int{8191, 8192, 8193, 9000} {
		l := append(make([]api.Tok, n), api.Tok{Code: 0xcc}, api.Tok{Code: 0x13, Off: 300})
		if b, e := token.Encode(l, false); e != api.ErrLong || len(b) != 0 {
			t.Errorf("%d ahead of a cc: %d bytes, %v", n, len(b), e)
		}
		l[n+1].Off = 1 << 15
		if b, e := token.Encode(l, false); e != api.ErrToken || len(b) != 0 {
			t.Errorf("%d ahead of a cc, and an offset too far: %d bytes, %v", n, len(b), e)
		}
		l[n].Code, l[n+1].Off = 0x47, 300
		if b, e := token.Encode(l, false); e != api.ErrToken || len(b) != 0 {
			t.Errorf("%d without a cc: %d bytes, %v", n, len(b), e)
		}
	}
}

// P13.1, P1: too many bytes come ahead of what they are.
func TestLongAheadOfToken(t *testing.T) {
	for _, wrong := range []string{"0f", "05", "10 000000", "12 02 61", "b5 07ff", "13", "b6 20"} {
		for _, wide := range []bool{false, true} {
			end := row(wrong)
			for n, want := range map[int]api.Errno{8192: api.ErrToken, 8193: api.ErrLong, 9000: api.ErrLong} {
				if l, e := token.Decode(append(make([]byte, n-len(end)), end...), wide); e != want || len(l) != 0 {
					t.Errorf("%s as the end of %d bytes: %d tokens, %v", wrong, n, len(l), e)
				}
				if l, e := token.Decode(append(row("b5 0000"), make([]byte, n-3)...), wide); e != want || len(l) != 0 {
					t.Errorf("b5 0000 as the beginning of %d bytes: %d tokens, %v", n, len(l), e)
				}
			}
		}
	}
}
