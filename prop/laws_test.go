package prop_test

import (
	"bytes"
	"slices"
	"strings"
	"testing"

	"tinder/api"
	"tinder/digit"
	"tinder/prop"
)

// numbers: with each of their bytes unlike the others, and the edges.
func numbers() []uint32 {
	return []uint32{0, 1, 9, 10, 15, 16, 0x7f, 0x80, 0xff, 0x100, 0x1234, 0x8000, 0xffff, 0x10000, 0x12345678, 0x7fffffff, 0x80000000, 0xfedcba98, 0xffffffff}
}

// texts: of each length that matters, of any bytes but 0.
func texts() []string {
	return []string{"", "a", "ab", "\xff", "\x01\x80", "some text", string(filled(254)), string(filled(255))}
}

// P5.2: a number that was encoded is decoded, alone and out of a row, and the row's other bytes stay.
func TestIntThereAndBack(t *testing.T) {
	for _, n := range numbers() {
		for _, behind := range [][]byte{nil, {0}, {1, 2, 3, 4}, filled(252)} {
			b, e := prop.Join(prop.EncodeInt(n), behind)
			got, rest, e2 := prop.DecodeInt(b)
			if got != n || !bytes.Equal(rest, behind) || e != api.OK || e2 != api.OK {
				t.Errorf("%x: %x, %v, %v, %v", n, got, rest, e, e2)
			}
		}
	}
}

// P5.2: a text that was encoded is decoded, alone and out of a row, and the row's other bytes stay.
func TestTextThereAndBack(t *testing.T) {
	for _, s := range texts() {
		b, e := prop.EncodeText(s)
		for _, behind := range [][]byte{nil, {0}, {1, 2, 0, 4}, filled(100)} {
			got, rest, e2 := prop.DecodeText(append(slices.Clone(b), behind...))
			if got != s || !bytes.Equal(rest, behind) || e != api.OK || e2 != api.OK {
				t.Errorf("%q: %q, %v, %v, %v", s, got, rest, e, e2)
			}
		}
	}
}

// P5.2: rows of numbers and of texts come back whole, one by one and at once.
func TestRowsThereAndBack(t *testing.T) {
	l, s := numbers(), texts()[:6]
	var ints, strs [][]byte
	for _, n := range l {
		ints = append(ints, prop.EncodeInt(n))
	}
	for _, text := range s {
		b, _ := prop.EncodeText(text)
		strs = append(strs, b)
	}
	for n := range len(l) + 1 {
		b, e := prop.Join(ints[:n]...)
		got, e2 := prop.Ints(b)
		if e != api.OK || e2 != api.OK || !slices.Equal(got, l[:n]) {
			t.Errorf("of %d numbers: %x, %v, %v", n, got, e, e2)
		}
	}
	for n := range len(s) + 1 {
		b, e := prop.Join(strs[:n]...)
		got, e2 := prop.Texts(b)
		if e != api.OK || e2 != api.OK || !slices.Equal(got, s[:n]) {
			t.Errorf("of %d texts: %q, %v, %v", n, got, e, e2)
		}
	}
}

// P5.2: numbers and texts in one row are decoded one behind the other.
func TestMixedRow(t *testing.T) {
	var b []byte
	for i, n := range numbers() {
		text, _ := prop.EncodeText(texts()[i%6])
		var e api.Errno
		if b, e = prop.Join(b, prop.EncodeInt(n), text); e != api.OK {
			t.Fatal(e)
		}
	}
	for i, want := range numbers() {
		n, behind, e := prop.DecodeInt(b)
		s, rest, e2 := prop.DecodeText(behind)
		if n != want || s != texts()[i%6] || e != api.OK || e2 != api.OK {
			t.Errorf("%d: %x, %q, %v, %v", i, n, s, e, e2)
		}
		b = rest
	}
	if len(b) != 0 {
		t.Errorf("left over: %v", b)
	}
}

// P5.2: bytes that were decoded whole, encoded again, are themselves.
func TestDecodedIsEncoded(t *testing.T) {
	for n := 0; n <= 256; n += 4 {
		b := filled(n)
		l, _ := prop.Ints(b)
		var parts [][]byte
		for _, v := range l {
			parts = append(parts, prop.EncodeInt(v))
		}
		if got, e := prop.Join(parts...); e != api.OK || !bytes.Equal(got, b) {
			t.Errorf("of %d bytes: %v, %v", n, got, e)
		}
	}
}

// P5.2: a unit address that is shown is parsed as itself, and in great letters and with noughts ahead too; one too long is refused.
func TestUnitThereAndBack(t *testing.T) {
	l := numbers()
	for n := 1; n <= 6; n++ {
		for at := 0; at+n <= len(l); at++ {
			unit := l[at : at+n]
			shown := prop.ShowUnit(unit)
			if n > api.MaxUnit {
				if got, e := prop.ParseUnit(shown); e != api.ErrLong || len(got) != 0 {
					t.Errorf("%s: %x, %v", shown, got, e)
				}
				continue
			}
			for _, s := range []string{shown, strings.ToUpper(shown), padded(shown)} {
				if got, e := prop.ParseUnit(s); e != api.OK || !slices.Equal(got, unit) {
					t.Errorf("%s: %x, %v; want %x", s, got, e, unit)
				}
			}
		}
	}
}

// padded: each number with noughts ahead, up to eight digits.
func padded(shown string) string {
	parts := strings.Split(shown, ",")
	for i, p := range parts {
		parts[i] = strings.Repeat("0", 8-len(p)) + p
	}
	return strings.Join(parts, ",")
}

// P5.1: a number's digits are those of layer 2's Show, with a comma between two.
func TestShowUnitIsShow(t *testing.T) {
	for _, n := range numbers() {
		want, e := digit.Show(n, 16)
		if got := prop.ShowUnit([]uint32{n}); e != api.OK || got != want {
			t.Errorf("%x: %q; want %q", n, got, want)
		}
		if got := prop.ShowUnit([]uint32{n, n, n}); got != want+","+want+","+want {
			t.Errorf("%x three times: %q", n, got)
		}
	}
}

// roomy: bytes with a 0 in them and marked spare room behind them, and all of it.
func roomy(n int) (b, all []byte) {
	all = append(filled(n), bytes.Repeat([]byte{0xd7}, 64)...)
	if n > 0 {
		all[n-1] = 0
	}
	return all[:n], all
}

// scribble: writes all over an answer, its spare room too.
func scribble(b []byte) {
	b = b[:cap(b)]
	for i := range b {
		b[i] ^= 0xff
	}
}

// answers: each call that answers bytes out of bytes, where it is taken and where it is refused.
func answers() map[string]func(b []byte) []byte {
	return map[string]func(b []byte) []byte{
		"Join of one":        func(b []byte) []byte { x, _ := prop.Join(b); return x },
		"Join of two":        func(b []byte) []byte { x, _ := prop.Join(b, b); return x },
		"Join with none":     func(b []byte) []byte { x, _ := prop.Join(nil, b, nil); return x },
		"Join in pieces":     func(b []byte) []byte { x, _ := prop.Join(b[:2], b[2:4], b[4:]); return x },
		"Join refused":       func(b []byte) []byte { x, _ := prop.Join(b, make([]byte, 257)); return x },
		"DecodeInt":          func(b []byte) []byte { _, x, _ := prop.DecodeInt(b); return x },
		"DecodeInt refused":  func(b []byte) []byte { _, x, _ := prop.DecodeInt(b[:3]); return x },
		"DecodeText":         func(b []byte) []byte { _, x, _ := prop.DecodeText(append(b[:3:3], b...)); return x },
		"DecodeText of all":  func(b []byte) []byte { _, x, _ := prop.DecodeText(b); return x },
		"DecodeText refused": func(b []byte) []byte { _, x, _ := prop.DecodeText(b[:3]); return x },
		"DecodeText ahead":   func(b []byte) []byte { _, x, _ := prop.DecodeText(b[2:]); return x },
	}
}

// P5.1, P1: what is handed in is left as it was, its spare room too, and shares nothing with what is answered, nor do two answers.
func TestNewMemory(t *testing.T) {
	for name, call := range answers() {
		for _, n := range []int{4, 5, 8, 9, 128, 256, 300} {
			b, all := roomy(n)
			was := slices.Clone(all)
			one := call(b)
			if !bytes.Equal(all, was) {
				t.Errorf("%s of %d: what was handed in is changed", name, n)
			}
			two := call(b)
			kept := slices.Clone(two)
			scribble(one)
			if !bytes.Equal(all, was) {
				t.Errorf("%s of %d: the answer shares what was handed in", name, n)
			}
			if !bytes.Equal(two, kept) {
				t.Errorf("%s of %d: two answers share", name, n)
			}
		}
	}
}

// P5.1, P1: bytes decoded out of the midst share nothing with the row that they came from.
func TestRestIsNew(t *testing.T) {
	b := []byte{'a', 0, 'b', 0, 'c', 0, 'd', 0}
	was := slices.Clone(b)
	_, behindText, _ := prop.DecodeText(b)
	_, behindInt, _ := prop.DecodeInt(b)
	scribble(behindText)
	scribble(behindInt)
	if !bytes.Equal(b, was) {
		t.Errorf("the row is now %v", b)
	}
}

// P1: what is encoded is new each time, and the list of parts stays.
func TestEncodedIsNew(t *testing.T) {
	one, two := prop.EncodeInt(0x01020304), prop.EncodeInt(0x01020304)
	scribble(one)
	if !bytes.Equal(two, []byte{1, 2, 3, 4}) {
		t.Errorf("two answers of EncodeInt share: %v", two)
	}
	one, _ = prop.EncodeText("")
	two, _ = prop.EncodeText("")
	scribble(one)
	if !bytes.Equal(two, []byte{0}) {
		t.Errorf("two answers of EncodeText share: %v", two)
	}
	parts := [][]byte{{1}, {2}, {3}}
	prop.Join(parts[:2]...)
	if !slices.EqualFunc(parts, [][]byte{{1}, {2}, {3}}, bytes.Equal) {
		t.Errorf("the parts are now %v", parts)
	}
}

// P1: lists that are read and shown stay, and two that are answered share nothing.
func TestListsAreNew(t *testing.T) {
	unit := []uint32{1, 2, 3, 4}
	prop.ShowUnit(unit[:2])
	if !slices.Equal(unit, []uint32{1, 2, 3, 4}) {
		t.Errorf("the unit address is now %v", unit)
	}
	one, _ := prop.ParseUnit("1,2")
	two, _ := prop.ParseUnit("1,2")
	clear(one[:cap(one)])
	if !slices.Equal(two, []uint32{1, 2}) {
		t.Errorf("two unit addresses share: %v", two)
	}
	b, all := roomy(8)
	was := slices.Clone(all)
	ints, _ := prop.Ints(b)
	strs, _ := prop.Texts(b)
	if !bytes.Equal(all, was) {
		t.Errorf("what was handed in is now %v", all)
	}
	scribble(b)
	if !slices.Equal(ints, []uint32{0x01020304, 0x05060700}) || !slices.Equal(strs, []string{"\x01\x02\x03\x04\x05\x06\x07"}) {
		t.Errorf("the answers hang on what was handed in: %x, %q", ints, strs)
	}
}

// P5.1, P1: a text that was decoded stays when the bytes change.
func TestTextStays(t *testing.T) {
	b := []byte("name\x00more")
	s, rest, _ := prop.DecodeText(b)
	scribble(b)
	if s != "name" || string(rest) != "more" {
		t.Errorf("%q, %q", s, rest)
	}
}
