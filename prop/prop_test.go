package prop_test

import (
	"bytes"
	"slices"
	"strings"
	"testing"

	"tinder/api"
	"tinder/prop"
)

// filled: so many bytes of which none near another is like it; the spare room behind them is none of them, and has a 0 in it.
func filled(n int) []byte {
	b := make([]byte, n, n+8)
	for i := range b {
		b[i] = byte(i%251) + 1
	}
	return b
}

// row: the bytes with spare room behind them that holds more numbers and texts.
func row(b ...byte) []byte {
	all := append(b, 'x', 0, 'y', 0, 'z', 0, 0, 0)
	return all[:len(b)]
}

// P5.1: a name of each length, of one sign all through.
func TestNamedLengths(t *testing.T) {
	for n := range 300 {
		if got, want := prop.Named(strings.Repeat("a", n)), n >= 1 && n <= 31; got != want {
			t.Errorf("of %d bytes: %v", n, got)
		}
	}
	if prop.Named(strings.Repeat("a", 1<<20)) {
		t.Error("a long text is a name")
	}
}

// P5.1: each byte there is, alone, and first, last and amid others, in a short name and in the longest one.
func TestNamedBytes(t *testing.T) {
	for c := range 256 {
		sign := string([]byte{byte(c)})
		want := c >= 33 && c <= 126 && !(c >= 65 && c <= 90)
		switch c {
		case 47, 92, 58, 91, 93, 64:
			want = false
		}
		long := strings.Repeat("b", 30)
		for _, s := range []string{sign, sign + "b", "b" + sign, "a" + sign + "b", sign + long, long + sign, long[:15] + sign + long[15:]} {
			if prop.Named(s) != want {
				t.Errorf("Named(%q): %v", s, !want)
			}
		}
	}
}

// P5.1: names as they come, and texts that are none.
func TestNamed(t *testing.T) {
	for s, want := range map[string]bool{
		"reg": true, "#address-cells": true, "acme,rom-2": true, "!": true, "~": true, "0": true, "-": true, "^_`{|}": true, `"'`: true,
		"": false, " ": false, "\x7f": false, "a b": false, "a\tb": false, "a\x00": false, "é": false,
		"a/b": false, `a\b`: false, "a:b": false, "a[b": false, "a]b": false, "a@b": false, "Reg": false, "reG": false, "A": false, "Z": false,
		strings.Repeat("@", 32): false, strings.Repeat("/", 31): false,
	} {
		if prop.Named(s) != want {
			t.Errorf("Named(%q): %v", s, !want)
		}
	}
}

// P5.1: unit addresses that are taken.
func TestParseUnit(t *testing.T) {
	for s, want := range map[string][]uint32{
		"1f,0":                                {31, 0},
		"0":                                   {0},
		"1":                                   {1},
		"f":                                   {15},
		"F":                                   {15},
		"00000000":                            {0},
		"0000001f":                            {31},
		"01":                                  {1},
		"ffffffff":                            {0xffffffff},
		"FFFFFFFF":                            {0xffffffff},
		"80000000":                            {0x80000000},
		"abcdef,ABCDEF,aBcDeF":                {0xabcdef, 0xabcdef, 0xabcdef},
		"12345678,9abcdef0":                   {0x12345678, 0x9abcdef0},
		"1,2,3":                               {1, 2, 3},
		"1,2,3,4":                             {1, 2, 3, 4},
		"00000001,0002,3,00000000":            {1, 2, 3, 0},
		"ffffffff,ffffffff,ffffffff,ffffffff": {0xffffffff, 0xffffffff, 0xffffffff, 0xffffffff},
	} {
		if got, e := prop.ParseUnit(s); e != api.OK || !slices.Equal(got, want) {
			t.Errorf("ParseUnit(%q): %x, %v; want %x", s, got, e, want)
		}
	}
}

// P5.1: unit addresses that are refused; a fault in any of the numbers comes ahead of there being too many.
func TestParseUnitRefused(t *testing.T) {
	for s, want := range map[string]api.Errno{
		"":                               api.ErrText,
		",":                              api.ErrText,
		",1":                             api.ErrText,
		"1,":                             api.ErrText,
		"1,,2":                           api.ErrText,
		"1,2,3,4,":                       api.ErrText,
		"g":                              api.ErrText,
		"G":                              api.ErrText,
		"1g":                             api.ErrText,
		"1 ":                             api.ErrText,
		" 1":                             api.ErrText,
		"1, 2":                           api.ErrText,
		"1.2":                            api.ErrText,
		"1_2":                            api.ErrText,
		"0x1":                            api.ErrText,
		"0X1":                            api.ErrText,
		"h#1":                            api.ErrText,
		"1h":                             api.ErrText,
		"-1":                             api.ErrText,
		"+1":                             api.ErrText,
		"-0":                             api.ErrText,
		"1,-2":                           api.ErrText,
		"1,+2":                           api.ErrText,
		"-":                              api.ErrText,
		"1\x00":                          api.ErrText,
		"é":                              api.ErrText,
		"123456789":                      api.ErrText,
		"000000001":                      api.ErrText,
		"000000000":                      api.ErrText,
		"1,100000000":                    api.ErrText,
		"1,2,3,4,5":                      api.ErrLong,
		"0,0,0,0,0,0":                    api.ErrLong,
		"ffffffff,1,2,3,00000004":        api.ErrLong,
		"1,2,3,4,5,":                     api.ErrText,
		"1,2,3,4,,":                      api.ErrText,
		",1,2,3,4":                       api.ErrText,
		",1,2,3,4,5":                     api.ErrText,
		"1,2,3,4,g":                      api.ErrText,
		"1,2,3,4,5,6,-7":                 api.ErrText,
		"x,2,3,4,5":                      api.ErrText,
		"1,2,3,4,123456789":              api.ErrText,
		"1,2,123456789,4,5":              api.ErrText,
		strings.Repeat("1,", 5000) + "1": api.ErrLong,
		strings.Repeat("1,", 5000):       api.ErrText,
		strings.Repeat("1", 1<<20):       api.ErrText,
	} {
		if got, e := prop.ParseUnit(s); e != want || len(got) != 0 {
			t.Errorf("ParseUnit(%.40q): %x, %v; want %v", s, got, e, want)
		}
	}
}

// P5.1: each byte alone and behind a digit: a digit of base 16, the comma, or a fault.
func TestParseUnitBytes(t *testing.T) {
	for c := range 256 {
		sign := string([]byte{byte(c)})
		place := strings.Index("0123456789abcdef", strings.ToLower(sign))
		for s, want := range map[string][]uint32{sign: {uint32(place)}, "1" + sign: {uint32(16 + place)}, "1," + sign: {1, uint32(place)}} {
			got, e := prop.ParseUnit(s)
			if place < 0 && (e != api.ErrText || len(got) != 0) || place >= 0 && (e != api.OK || !slices.Equal(got, want)) {
				t.Errorf("ParseUnit(%q): %x, %v", s, got, e)
			}
		}
	}
}

// P5.1: the text of any list, of an empty one and of one longer than a unit address too.
func TestShowUnit(t *testing.T) {
	for want, l := range map[string][]uint32{
		"1f,0":                {31, 0},
		"0":                   {0},
		"a":                   {10},
		"10":                  {16},
		"80000000":            {1 << 31},
		"ffffffff":            {0xffffffff},
		"1,2,3,4":             {1, 2, 3, 4},
		"0,0,0,0":             {0, 0, 0, 0},
		"1,2,3,4,5":           {1, 2, 3, 4, 5},
		"deadbeef,0,abcdef,9": {0xdeadbeef, 0, 0xabcdef, 9},
	} {
		if got := prop.ShowUnit(l); got != want {
			t.Errorf("ShowUnit(%x): %q; want %q", l, got, want)
		}
	}
	if nothing, empty := prop.ShowUnit(nil), prop.ShowUnit([]uint32{}); nothing != "" || empty != "" {
		t.Errorf("ShowUnit of none: %q, %q", nothing, empty)
	}
	if got := prop.ShowUnit(make([]uint32, 5000)); got != strings.Repeat("0,", 4999)+"0" {
		t.Errorf("ShowUnit of many: %.20q", got)
	}
}

// P5.1: the bytes of a number, the highest first.
func TestEncodeInt(t *testing.T) {
	for n, want := range map[uint32][]byte{
		0:          {0, 0, 0, 0},
		1:          {0, 0, 0, 1},
		0x12345678: {0x12, 0x34, 0x56, 0x78},
		0x80000000: {0x80, 0, 0, 0},
		0xffffffff: {255, 255, 255, 255},
		0xff00:     {0, 0, 255, 0},
	} {
		if got := prop.EncodeInt(n); !bytes.Equal(got, want) {
			t.Errorf("EncodeInt(%x): %v", n, got)
		}
	}
}

// P5.1: the bytes of a text, of each length that fits and of those that don't.
func TestEncodeText(t *testing.T) {
	for n := range 600 {
		s := string(filled(n))
		got, e := prop.EncodeText(s)
		if n < 256 && (e != api.OK || !bytes.Equal(got, append([]byte(s), 0))) {
			t.Errorf("EncodeText of %d bytes: %v, %v", n, got, e)
		}
		if n >= 256 && (e != api.ErrLong || len(got) != 0) {
			t.Errorf("EncodeText of %d bytes: %v, %v", n, got, e)
		}
	}
	if got, e := prop.EncodeText("ab"); e != api.OK || !bytes.Equal(got, []byte{97, 98, 0}) {
		t.Errorf("EncodeText(ab): %v, %v", got, e)
	}
	if got, e := prop.EncodeText(strings.Repeat("a", 1<<20)); e != api.ErrLong || len(got) != 0 {
		t.Errorf("EncodeText of a long text: %v, %v", got, e)
	}
}

// P5.1: a byte 0 anywhere is refused, and that comes ahead of the length.
func TestEncodeTextZero(t *testing.T) {
	for _, n := range []int{0, 1, 7, 254, 255, 256, 257, 5000} {
		for _, at := range []int{0, n / 2, n} {
			s := string(filled(n))
			if got, e := prop.EncodeText(s[:at] + "\x00" + s[at:]); e != api.ErrText || len(got) != 0 {
				t.Errorf("EncodeText of %d bytes with a 0 at %d: %v, %v", n+1, at, got, e)
			}
		}
	}
}

// P5.1: parts one behind the other; no parts, and parts that are none, are no bytes.
func TestJoin(t *testing.T) {
	for _, c := range []struct {
		parts [][]byte
		want  string
	}{
		{nil, ""},
		{[][]byte{}, ""},
		{[][]byte{nil}, ""},
		{[][]byte{nil, {}, nil}, ""},
		{[][]byte{row('a')}, "a"},
		{[][]byte{row('a', 'b'), row(), row('c'), nil, row(0, 'd')}, "abc\x00d"},
		{[][]byte{row(0), row(0), row(255)}, "\x00\x00\xff"},
	} {
		if got, e := prop.Join(c.parts...); e != api.OK || string(got) != c.want {
			t.Errorf("Join(%q): %q, %v", c.parts, got, e)
		}
	}
	if got, e := prop.Join(make([][]byte, 5000)...); e != api.OK || len(got) != 0 {
		t.Errorf("Join of many that are none: %v, %v", got, e)
	}
}

// P5.1: exactly MaxData bytes are taken, and one more is refused, however they are parted.
func TestJoinLimit(t *testing.T) {
	all := filled(1000)
	for _, n := range []int{255, 256, 257, 258, 511, 512, 513, 1000} {
		ones := make([][]byte, n)
		for i := range ones {
			ones[i] = all[i : i+1]
		}
		for _, parts := range [][][]byte{{all[:n]}, {all[:n], nil}, {nil, all[:n]}, {all[:1], all[1:n]}, {all[:n-1], all[n-1 : n]}, {all[:100], all[100:200], all[200:n]}, ones} {
			got, e := prop.Join(parts...)
			if n <= 256 && (e != api.OK || !bytes.Equal(got, all[:n])) {
				t.Errorf("Join of %d bytes in %d parts: %v, %v", n, len(parts), got, e)
			}
			if n > 256 && (e != api.ErrLong || len(got) != 0) {
				t.Errorf("Join of %d bytes in %d parts: %v, %v", n, len(parts), got, e)
			}
		}
	}
}

// P5.1: the first number and the bytes behind it; fewer than four have none, whatever the spare room holds.
func TestDecodeInt(t *testing.T) {
	for _, c := range []struct {
		b    []byte
		n    uint32
		rest []byte
		e    api.Errno
	}{
		{nil, 0, nil, api.ErrNone},
		{row(), 0, nil, api.ErrNone},
		{row(1), 0, nil, api.ErrNone},
		{row(1, 2, 3), 0, nil, api.ErrNone},
		{row(1, 2, 3, 4), 0x01020304, nil, api.OK},
		{row(0, 0, 1, 2, 3), 258, []byte{3}, api.OK},
		{row(255, 255, 255, 255, 0, 0), 0xffffffff, []byte{0, 0}, api.OK},
		{row(128, 0, 0, 0, 1, 2, 3, 4, 5), 1 << 31, []byte{1, 2, 3, 4, 5}, api.OK},
	} {
		if n, rest, e := prop.DecodeInt(c.b); n != c.n || !bytes.Equal(rest, c.rest) || e != c.e {
			t.Errorf("DecodeInt(%v): %x, %v, %v", c.b, n, rest, e)
		}
	}
	long := filled(5000)
	if n, rest, e := prop.DecodeInt(long); n != 0x01020304 || !bytes.Equal(rest, long[4:]) || e != api.OK {
		t.Errorf("DecodeInt of many: %x, %d, %v", n, len(rest), e)
	}
}

// P5.1: the first text and the bytes behind its 0; without a 0 there is none, whatever the spare room holds.
func TestDecodeText(t *testing.T) {
	for _, c := range []struct {
		b    []byte
		s    string
		rest []byte
		e    api.Errno
	}{
		{nil, "", nil, api.ErrNone},
		{row(), "", nil, api.ErrNone},
		{row(1), "", nil, api.ErrNone},
		{row('a', 'b', 'c', 'd'), "", nil, api.ErrNone},
		{row(0), "", nil, api.OK},
		{row(0, 0), "", []byte{0}, api.OK},
		{row(97, 0, 98), "a", []byte{98}, api.OK},
		{row(97, 98, 0), "ab", nil, api.OK},
		{row(97, 0, 98, 0, 99), "a", []byte{98, 0, 99}, api.OK},
		{row(0, 97), "", []byte{97}, api.OK},
		{row(255, 128, 0, 7), "\xff\x80", []byte{7}, api.OK},
	} {
		if s, rest, e := prop.DecodeText(c.b); s != c.s || !bytes.Equal(rest, c.rest) || e != c.e {
			t.Errorf("DecodeText(%v): %q, %v, %v", c.b, s, rest, e)
		}
	}
	long := filled(5000)
	if s, rest, e := prop.DecodeText(append(long, 0, 9)); s != string(long) || !bytes.Equal(rest, []byte{9}) || e != api.OK {
		t.Errorf("DecodeText of many: %d, %v, %v", len(s), rest, e)
	}
	if s, rest, e := prop.DecodeText(long); s != "" || len(rest) != 0 || e != api.ErrNone {
		t.Errorf("DecodeText of many without a 0: %d, %v, %v", len(s), rest, e)
	}
}

// P5.1: the numbers of all bytes, of each count of them.
func TestInts(t *testing.T) {
	for n := range 600 {
		b := filled(n)
		var want []uint32
		for i := 0; i+4 <= n; i += 4 {
			want = append(want, uint32(b[i])*1<<24+uint32(b[i+1])*1<<16+uint32(b[i+2])*1<<8+uint32(b[i+3]))
		}
		got, e := prop.Ints(b)
		if n%4 == 0 && (e != api.OK || !slices.Equal(got, want)) {
			t.Errorf("Ints of %d bytes: %x, %v", n, got, e)
		}
		if n%4 != 0 && (e != api.ErrText || len(got) != 0) {
			t.Errorf("Ints of %d bytes: %x, %v", n, got, e)
		}
	}
	if got, e := prop.Ints(nil); e != api.OK || len(got) != 0 {
		t.Errorf("Ints of none: %x, %v", got, e)
	}
	if got, e := prop.Ints(row(255, 254, 253, 252, 0, 0, 0, 1)); e != api.OK || !slices.Equal(got, []uint32{0xfffefdfc, 1}) {
		t.Errorf("Ints: %x, %v", got, e)
	}
}

// P5.1: the texts of all bytes, empty ones too; a last byte that isn't 0 is refused, whatever the spare room holds.
func TestTexts(t *testing.T) {
	for _, c := range []struct {
		b    []byte
		want []string
		e    api.Errno
	}{
		{nil, nil, api.OK},
		{row(), nil, api.OK},
		{row(0), []string{""}, api.OK},
		{row(0, 0), []string{"", ""}, api.OK},
		{row('a', 0), []string{"a"}, api.OK},
		{row('a', 'b', 0, 'c', 0), []string{"ab", "c"}, api.OK},
		{row(0, 'a', 0, 0, 'b', 0), []string{"", "a", "", "b"}, api.OK},
		{row(255, 0, 128, 1, 0), []string{"\xff", "\x80\x01"}, api.OK},
		{row(1), nil, api.ErrText},
		{row(0, 1), nil, api.ErrText},
		{row('a', 0, 'b'), nil, api.ErrText},
		{row('a', 'b'), nil, api.ErrText},
		{row(0, 0, 0, 255), nil, api.ErrText},
	} {
		if got, e := prop.Texts(c.b); e != c.e || !slices.Equal(got, c.want) {
			t.Errorf("Texts(%v): %q, %v", c.b, got, e)
		}
	}
	if got, e := prop.Texts(make([]byte, 5000)); e != api.OK || !slices.Equal(got, make([]string, 5000)) {
		t.Errorf("Texts of many: %d, %v", len(got), e)
	}
	if got, e := prop.Texts(append(make([]byte, 5000), 1)); e != api.ErrText || len(got) != 0 {
		t.Errorf("Texts of many and one more: %d, %v", len(got), e)
	}
}
