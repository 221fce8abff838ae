package token_test

import (
	"bytes"
	"math"
	"math/rand"
	"slices"
	"testing"

	"tinder/api"
	"tinder/token"
)

// The model tells what stands behind each code by a text of signs, gone through one by one: 4 a number of four bytes, c a code, t a text, m a name, o an offset, w a number of a word.
var layouts = map[int]string{
	0x10: "4",
	0x11: "c", 0xc3: "c",
	0x12: "t",
	0x13: "o", 0x14: "o", 0x15: "o", 0x16: "o", 0x17: "o", 0x18: "o", 0x1c: "o", 0xc6: "o",
	0xb5: "w",
	0xb6: "mw", 0xca: "mw",
}

// modelCode: a code's bytes, and whether it is one.
func modelCode(n int64) ([]byte, bool) {
	switch {
	case n == 0, n >= 0x10 && n <= 0xff:
		return []byte{byte(n)}, true
	case n >= 0x100 && n <= 0xfff:
		return []byte{byte(n / 256), byte(n % 256)}, true
	}
	return nil, false
}

// modelBytes: a token's bytes, and whether it is one. What is told of it is taken out of it: what is left must be nothing.
func modelBytes(x api.Tok, wide bool) ([]byte, bool) {
	b, ok := modelCode(int64(x.Code))
	for _, sign := range layouts[x.Code] {
		switch sign {
		case '4':
			for _, by := range []uint32{1 << 24, 1 << 16, 1 << 8, 1} {
				b = append(b, byte(x.N/by%256))
			}
			x.N = 0
		case 'c':
			more, is := modelCode(int64(x.N))
			b, ok, x.N = append(b, more...), ok && is, 0
		case 't', 'm':
			most := map[rune]int{'t': 255, 'm': 31}[sign]
			b, ok = append(append(b, byte(len(x.Text))), x.Text...), ok && len(x.Text) <= most
			x.Text = ""
		case 'o':
			half := map[bool]int{false: 128, true: 32768}[wide]
			ok = ok && x.Off >= -half && x.Off < half
			if wide {
				b = append(b, byte(uint16(x.Off)/256))
			}
			b, x.Off = append(b, byte(uint16(x.Off)%256)), 0
		case 'w':
			b, ok = append(b, byte(x.N/256), byte(x.N%256)), ok && x.N >= 0x800 && x.N <= 0xfff
			x.N = 0
		}
	}
	if !ok || x.N != 0 || x.Text != "" || x.Off != 0 {
		return nil, false
	}
	return b, true
}

// modelEncode: all bytes are made, and then counted.
func modelEncode(l []api.Tok, wide bool) ([]byte, api.Errno) {
	var all []byte
	for _, x := range l {
		b, ok := modelBytes(x, wide)
		if !ok {
			return nil, api.ErrToken
		}
		all = append(all, b...)
		if x.Code == 0xcc {
			wide = true
		}
	}
	if len(all) > 8192 {
		return nil, api.ErrLong
	}
	return all, api.OK
}

// guesses: tokens of which one must be at the beginning of b, if any is. They are had of b as if there were enough noughts behind it, and need not be right.
func guesses(b []byte) []api.Tok {
	b = append(slices.Clone(b), make([]byte, 300)...)
	two := func(at int) int { return int(b[at])*256 + int(b[at+1]) }
	n := int(b[1])
	return []api.Tok{
		{Code: int(b[0])},
		{Code: two(0)},
		{Code: int(b[0]), N: uint32(two(1))*65536 + uint32(two(3))},
		{Code: int(b[0]), N: uint32(b[1])},
		{Code: int(b[0]), N: uint32(two(1))},
		{Code: int(b[0]), Text: string(b[2 : 2+n])},
		{Code: int(b[0]), Text: string(b[2 : 2+n]), N: uint32(two(2 + n))},
		{Code: int(b[0]), Off: int(b[1])},
		{Code: int(b[0]), Off: int(b[1]) - 256},
		{Code: int(b[0]), Off: two(1)},
		{Code: int(b[0]), Off: two(1) - 65536},
	}
}

// modelDecode: what is decoded is that whose bytes these are.
func modelDecode(b []byte, wide bool) ([]api.Tok, api.Errno) {
	if len(b) > 8192 {
		return nil, api.ErrLong
	}
	var l []api.Tok
	for len(b) > 0 {
		all := guesses(b[:min(len(b), 300)])
		at := slices.IndexFunc(all, func(x api.Tok) bool {
			made, ok := modelBytes(x, wide)
			return ok && bytes.HasPrefix(b, made)
		})
		if at < 0 {
			return nil, api.ErrToken
		}
		x := all[at]
		made, _ := modelBytes(x, wide)
		l, b, wide = append(l, x), b[len(made):], wide || x.Code == 0xcc
	}
	return l, api.OK
}

// asModelEncodes: that tokens come to what the model says, and come back.
func asModelEncodes(t *testing.T, l []api.Tok, wide bool) {
	t.Helper()
	want, wantE := modelEncode(l, wide)
	b, e := token.Encode(l, wide)
	if e != wantE || !bytes.Equal(b, want) {
		t.Fatalf("Encode(%s, %v): %.60x, %v; want %.60x, %v", told(l), wide, b, e, want, wantE)
	}
	if e != api.OK {
		return
	}
	if back, e := token.Decode(b, wide); e != api.OK || !slices.Equal(back, l) {
		t.Fatalf("%s, %v: encoded as %.60x, decoded as %s, %v", told(l), wide, b, told(back), e)
	}
}

// asModelDecodes: that bytes come to what the model says, and come back.
func asModelDecodes(t *testing.T, b []byte, wide bool) bool {
	t.Helper()
	want, wantE := modelDecode(b, wide)
	l, e := token.Decode(b, wide)
	if e != wantE || !slices.Equal(l, want) {
		t.Fatalf("Decode(%.60x, %v): %s, %v; want %s, %v", b, wide, told(l), e, told(want), wantE)
	}
	if e != api.OK {
		return false
	}
	if back, e := token.Encode(l, wide); e != api.OK || !bytes.Equal(back, b) {
		t.Fatalf("%.60x, %v: decoded as %s, encoded as %.60x, %v", b, wide, told(l), back, e)
	}
	return true
}

// P13.1, P13.2: all tokens of some numbers, texts and offsets, of each code and of numbers that are none, are or aren't tokens as the model says, and Size is the number of their bytes.
func TestAllTokens(t *testing.T) {
	for code := -2; code < 0x1003; code++ {
		numbers, texts, offsets := []uint32{0, 0x800}, []string{"", "a"}, []int{0, 1}
		if layouts[code] != "" {
			numbers = []uint32{0, 1, 0xf, 0x10, 0xff, 0x100, 0x7ff, 0x800, 0xfff, 0x1000, 0x10800, 0xffffffff}
			texts = []string{"", "a", letters(31), letters(32), letters(255), letters(256), letters(287)}
			offsets = []int{0, -129, -128, -1, 127, 128, -32769, -32768, 32767, 32768, 65536, math.MaxInt, math.MinInt}
		}
		for _, n := range numbers {
			for _, text := range texts {
				for _, off := range offsets {
					for _, wide := range []bool{false, true} {
						x := api.Tok{Code: code, N: n, Text: text, Off: off}
						asModelEncodes(t, []api.Tok{x}, wide)
						if b, _ := modelBytes(x, wide); token.Size(x, wide) != len(b) {
							t.Fatalf("Size(%s, %v): %d; want %d", told(x), wide, token.Size(x, wide), len(b))
						}
					}
				}
			}
		}
	}
}

// P13.1, P13.2: all bytes that are at most two, and all that are three or four of some, are or aren't tokens as the model says.
func TestAllShortBytes(t *testing.T) {
	for _, wide := range []bool{false, true} {
		asModelDecodes(t, nil, wide)
		for a := range 256 {
			asModelDecodes(t, []byte{byte(a)}, wide)
			for b := range 256 {
				asModelDecodes(t, []byte{byte(a), byte(b)}, wide)
			}
		}
		some := row("00 01 02 08 0f 10 11 12 13 47 80 b5 b6 c3 c6 ca cc ff")
		for _, a := range some {
			for _, b := range some {
				for _, c := range some {
					asModelDecodes(t, []byte{a, b, c}, wide)
					for _, d := range some {
						asModelDecodes(t, []byte{a, b, c, d}, wide)
					}
				}
			}
		}
	}
}

// chance: the same numbers each time.
func chance() *rand.Rand {
	return rand.New(rand.NewSource(13))
}

// anyCode: of those with something behind them, as often as of the others.
func anyCode(r *rand.Rand) int {
	if r.Intn(2) == 0 {
		l := append(offsetCodes(), 0x10, 0x11, 0xc3, 0x12, 0xb5, 0xb6, 0xca, 0xcc)
		return l[r.Intn(len(l))]
	}
	return []int{0, 0x10 + r.Intn(0xf0), 0x100 + r.Intn(0xf00)}[r.Intn(3)]
}

// anyToken: one that there may be, offsets being wide or narrow.
func anyToken(r *rand.Rand, wide bool) api.Tok {
	x := api.Tok{Code: anyCode(r)}
	for _, sign := range layouts[x.Code] {
		switch sign {
		case '4':
			x.N = r.Uint32() >> r.Intn(32)
		case 'c':
			x.N = uint32(anyCode(r))
		case 't':
			x.Text = anyText(r, []int{0, 1, 5, 40, 255}[r.Intn(5)])
		case 'm':
			x.Text = anyText(r, r.Intn(32))
		case 'o':
			x.Off = r.Intn(256) - 128
			if wide {
				x.Off = r.Intn(65536) - 32768
			}
		case 'w':
			x.N = 0x800 + uint32(r.Intn(0x800))
		}
	}
	return x
}

func anyText(r *rand.Rand, n int) string {
	b := make([]byte, n)
	r.Read(b)
	return string(b)
}

// anyTokens: so many that there may be.
func anyTokens(r *rand.Rand, n int, wide bool) []api.Tok {
	var l []api.Tok
	for range n {
		x := anyToken(r, wide)
		l, wide = append(l, x), wide || x.Code == 0xcc
	}
	return l
}

// P13.2: rows of tokens come back, of few ones and of so many that some rows are too long.
func TestRowsThereAndBack(t *testing.T) {
	r := chance()
	for i := range 6000 {
		wide := i%2 == 0
		l := anyTokens(r, r.Intn(12), wide)
		if i%50 == 0 {
			l = anyTokens(r, r.Intn(1200), wide)
		}
		if _, e := modelEncode(l, wide); e == api.ErrToken {
			t.Fatalf("the model takes %s as none", told(l))
		}
		asModelEncodes(t, l, wide)
	}
}

// P13.1: rows of tokens of which one is another one, wrong or not.
func TestRowsWithOneChanged(t *testing.T) {
	r := chance()
	for i := range 6000 {
		wide := i%2 == 0
		l := anyTokens(r, 1+r.Intn(8), wide)
		x := &l[r.Intn(len(l))]
		switch r.Intn(5) {
		case 0:
			x.Code = r.Intn(0x1010) - 8
		case 1:
			x.N ^= 1 << r.Intn(32)
		case 2:
			x.Text += anyText(r, r.Intn(260))
		case 3:
			x.Off += r.Intn(1<<17) - 1<<16
		case 4:
			x.Off ^= 1 << r.Intn(63)
		}
		asModelEncodes(t, l, wide)
	}
}

// P13.2: bytes that come by chance, bytes of tokens of which one is changed, put in or taken out, and such as are read in the other way; some of each are tokens, some aren't.
func TestBytesThereAndBack(t *testing.T) {
	r := chance()
	came := map[bool]int{}
	for i := range 20000 {
		wide := i%2 == 0
		b, _ := token.Encode(anyTokens(r, r.Intn(6), wide), wide != (r.Intn(8) == 0))
		if i%3 == 0 || len(b) == 0 {
			b = make([]byte, r.Intn(12))
			r.Read(b)
		}
		if len(b) > 0 {
			at := r.Intn(len(b))
			switch r.Intn(4) {
			case 0:
				b[at] = byte(r.Intn(256))
			case 1:
				b = slices.Insert(b, at, byte(r.Intn(256)))
			case 2:
				b = slices.Delete(b, at, at+1)
			}
		}
		came[asModelDecodes(t, b, wide)]++
	}
	if came[true] < 1000 || came[false] < 1000 {
		t.Errorf("too few of a kind: %v", came)
	}
}

// P13.1: a token's bytes stand one behind the other: a row's bytes are those of its two parts, and Size tells how many each one has.
func TestPartsOfRows(t *testing.T) {
	r := chance()
	for i := range 2000 {
		wide := i%2 == 0
		l := anyTokens(r, r.Intn(10), wide)
		all, e := token.Encode(l, wide)
		if e != api.OK {
			t.Fatalf("%s: %v", told(l), e)
		}
		sum, now := 0, wide
		for k := range len(l) + 1 {
			one, e := token.Encode(l[:k], wide)
			two, e2 := token.Encode(l[k:], now)
			if e != api.OK || e2 != api.OK || !bytes.Equal(slices.Concat(one, two), all) {
				t.Fatalf("%s in two parts at %d: %x, %v and %x, %v; want %x", told(l), k, one, e, two, e2, all)
			}
			if len(one) != sum {
				t.Fatalf("the first %d of %s: %d bytes; by Size %d", k, told(l), len(one), sum)
			}
			if k < len(l) {
				sum += token.Size(l[k], now)
				now = now || l[k].Code == 0xcc
			}
		}
	}
}

// P13.1: no other bytes ahead of a row's end are tokens but where a token ends, and these are the row's first ones.
func TestBeginningsOfRows(t *testing.T) {
	r := chance()
	for i := range 1000 {
		wide := i%2 == 0
		l := anyTokens(r, r.Intn(6), wide)
		b, _ := token.Encode(l, wide)
		ends := map[int]int{0: 0}
		sum, now := 0, wide
		for k, x := range l {
			sum += token.Size(x, now)
			ends[sum], now = k+1, now || x.Code == 0xcc
		}
		for n := range len(b) + 1 {
			k, ok := ends[n]
			got, e := token.Decode(b[:n], wide)
			if ok && (e != api.OK || !slices.Equal(got, l[:k])) || !ok && (e != api.ErrToken || len(got) != 0) {
				t.Fatalf("the first %d bytes of %x: %s, %v", n, b, told(got), e)
			}
		}
	}
}

// P1: what is handed in is left as it was, its spare room too, and shares nothing with what is answered, nor do two answers.
func TestEncodedIsNew(t *testing.T) {
	for _, wide := range []bool{false, true} {
		var all []api.Tok
		for _, s := range samples() {
			all = append(all, s.tok)
		}
		was := slices.Clone(all)
		for n := range len(all) {
			one, _ := token.Encode(all[:n], wide)
			two, _ := token.Encode(all[:n], wide)
			kept := slices.Clone(two)
			one = one[:cap(one)]
			for i := range one {
				one[i] ^= 0xff
			}
			if !slices.Equal(all, was) {
				t.Fatalf("what was handed in is now %s", told(all))
			}
			if !bytes.Equal(two, kept) {
				t.Fatalf("two answers of the first %d share", n)
			}
		}
	}
}

// P1: so it is with bytes, of which no text that is answered may keep any; with such as are refused too.
func TestDecodedIsNew(t *testing.T) {
	for _, digits := range []string{"", "47", "12 03 616263 47", "b6 02 7879 0801 10 00000001", "ca 01 7a 0fff 12 00", "12 02 6162 05", "0f", "12 05 61"} {
		b := row(digits)
		all := append(b, bytes.Repeat([]byte{0x47}, 16)...)
		was := slices.Clone(all)
		one, e := token.Decode(all[:len(b)], false)
		two, e2 := token.Decode(all[:len(b)], false)
		if !bytes.Equal(all, was) || e != e2 || !slices.Equal(one, two) {
			t.Fatalf("%s: now %x; %s, %v and %s, %v", digits, all, told(one), e, told(two), e2)
		}
		kept := make([]api.Tok, len(two))
		for i, x := range two {
			x.Text = string([]byte(x.Text))
			kept[i] = x
		}
		clear(one[:cap(one)])
		clear(all)
		if !slices.Equal(two, kept) {
			t.Errorf("%s: the answer is now %s; was %s", digits, told(two), told(kept))
		}
	}
}

// P1: a call hangs on its arguments alone: a cc, or an error, of one call says nothing of the next one.
func TestNothingIsKept(t *testing.T) {
	for range 2 {
		taken(t, []api.Tok{{Code: 0x13, Off: 1}, {Code: 0xcc}}, row("13 01 cc"), false)
		noToken(t, api.Tok{Code: 0x13, Off: 128}, false)
		noBytes(t, row("13"), false)
		if n := token.Size(api.Tok{Code: 0xcc}, false); n != 1 {
			t.Errorf("Size of cc: %d", n)
		}
		if n := token.Size(api.Tok{Code: 0x13, Off: 1}, false); n != 2 {
			t.Errorf("Size of 13: %d", n)
		}
	}
}
