package digit_test

import (
	"math"
	"strings"
	"testing"

	"tinder/api"
	"tinder/digit"
)

const (
	most = uint32(math.MaxUint32)
	sign = uint32(1) << 31
)

// neg is the cell whose signed value is -n.
func neg(n uint32) uint32 { return -n }

// unfit are bases on both sides of those that are fit, and far off (one of them fit by its lowest byte).
func unfit() []uint32 {
	return []uint32{0, 1, 37, 38, 255, 256, 256 + 10, 1<<16 + 10, sign, sign + 10, most}
}

// P2.1, Value: every byte in every base up to one above those that are fit.
func TestValueOfEveryByte(t *testing.T) {
	const small, great = "0123456789abcdefghijklmnopqrstuvwxyz", "0123456789ABCDEFGHIJKLMNOPQRSTUVWXYZ"
	for base := range uint32(38) {
		for c := range 256 {
			place := max(strings.IndexByte(small, byte(c)), strings.IndexByte(great, byte(c)))
			want, ok := uint32(max(place, 0)), base >= 2 && base <= 36 && place >= 0 && place < int(base)
			if !ok {
				want = 0
			}
			if got, is := digit.Value(byte(c), base); got != want || is != ok {
				t.Errorf("Value(%q, %d) = %d, %v; want %d, %v", byte(c), base, got, is, want, ok)
			}
		}
	}
}

// P2.1: a base that isn't fit is refused by each call, ahead of all else.
func TestBaseNotFit(t *testing.T) {
	for _, base := range unfit() {
		if v, ok := digit.Value('1', base); v != 0 || ok {
			t.Errorf("Value('1', %d) = %d, %v", base, v, ok)
		}
		for _, s := range []string{"", "1", "-", "-1", "!", "99999999999"} {
			if n, e := digit.Parse(s, base); n != 0 || e != api.ErrArg {
				t.Errorf("Parse(%q, %d) = %d, %v", s, base, n, e)
			}
		}
		for _, n := range []uint32{0, 1, sign, most} {
			if s, e := digit.Show(n, base); s != "" || e != api.ErrArg {
				t.Errorf("Show(%d, %d) = %q, %v", n, base, s, e)
			}
			if s, e := digit.Signed(n, base); s != "" || e != api.ErrArg {
				t.Errorf("Signed(%d, %d) = %q, %v", n, base, s, e)
			}
		}
	}
}

// P2.1, Parse: ordinary texts and the edges.
func TestParseAnswers(t *testing.T) {
	for _, c := range []struct {
		s    string
		base uint32
		want uint32
	}{
		{"0", 10, 0}, {"7", 8, 7}, {"1f", 16, 31}, {"1F", 16, 31}, {"aBc", 16, 0xabc}, {"73", 36, 255}, {"Zz", 36, 35*36 + 35}, {"z", 36, 35},
		{"00012", 10, 12}, {strings.Repeat("0", 100) + "12", 10, 12}, {"-" + strings.Repeat("0", 100) + "12", 10, neg(12)}, {"101", 2, 5},
		{"4294967295", 10, most}, {"ffffffff", 16, most}, {"FFFFFFFF", 16, most}, {strings.Repeat("1", 32), 2, most}, {"1z141z3", 36, most}, {"37777777777", 8, most},
		{"-1", 10, most}, {"-ff", 16, 0xffffff01}, {"-0", 2, 0}, {"-00", 10, 0}, {"-2147483648", 10, sign}, {"2147483648", 10, sign},
		{"-2147483649", 10, sign - 1}, {"-4294967295", 10, 1}, {"-" + strings.Repeat("1", 32), 2, 1}, {"-1z141z3", 36, 1},
	} {
		if got, e := digit.Parse(c.s, c.base); got != c.want || e != api.OK {
			t.Errorf("Parse(%q, %d) = %d, %v; want %d", c.s, c.base, got, e, c.want)
		}
	}
}

// P2.1, Parse: what isn't digits, what is above 2^32 - 1, and which of both is told.
func TestParseRefuses(t *testing.T) {
	for _, c := range []struct {
		s    string
		base uint32
		want api.Errno
	}{
		{"", 10, api.ErrText}, {"-", 10, api.ErrText}, {"-", 36, api.ErrText}, {"--1", 10, api.ErrText}, {"1-", 10, api.ErrText}, {"1-1", 10, api.ErrText}, {"+1", 10, api.ErrText},
		{"2", 2, api.ErrText}, {"8", 8, api.ErrText}, {"a", 10, api.ErrText}, {"1f", 10, api.ErrText}, {"g", 16, api.ErrText}, {"z", 35, api.ErrText}, {"Z", 35, api.ErrText},
		{" 1", 10, api.ErrText}, {"1 ", 10, api.ErrText}, {"1_0", 10, api.ErrText}, {"0x1", 16, api.ErrText}, {"h#1", 16, api.ErrText}, {"1.", 10, api.ErrText}, {"1\x00", 10, api.ErrText},
		{"\xff", 36, api.ErrText}, {"\u0661", 10, api.ErrText}, {"[", 36, api.ErrText}, {"@", 36, api.ErrText}, {"`", 36, api.ErrText}, {"{", 36, api.ErrText}, {"/", 36, api.ErrText}, {":", 36, api.ErrText},
		{"4294967296", 10, api.ErrRange}, {"100000000", 16, api.ErrRange}, {"1" + strings.Repeat("0", 32), 2, api.ErrRange}, {"1z141z4", 36, api.ErrRange},
		{"-4294967296", 10, api.ErrRange}, {"-100000000", 16, api.ErrRange}, {"18446744073709551616", 10, api.ErrRange}, {"10000000000000000", 16, api.ErrRange},
		{"10000000000000005", 16, api.ErrRange}, {strings.Repeat("9", 5000), 10, api.ErrRange}, {"1" + strings.Repeat("0", 200), 2, api.ErrRange},
		{"99999999999999999999x", 10, api.ErrText}, {"x99999999999999999999", 10, api.ErrText}, {"-4294967296-", 10, api.ErrText},
	} {
		if got, e := digit.Parse(c.s, c.base); got != 0 || e != c.want {
			t.Errorf("Parse(%q, %d) = %d, %v; want %v", c.s, c.base, got, e, c.want)
		}
	}
}

// P2.1, Show and Signed: ordinary numbers and the edges.
func TestShowAnswers(t *testing.T) {
	for _, c := range []struct {
		n, base       uint32
		shown, signed string
	}{
		{0, 10, "0", "0"}, {0, 2, "0", "0"}, {0, 36, "0", "0"}, {7, 10, "7", "7"}, {10, 10, "10", "10"}, {255, 36, "73", "73"}, {255, 16, "ff", "ff"}, {35, 36, "z", "z"}, {36, 36, "10", "10"}, {10, 11, "a", "a"},
		{most, 10, "4294967295", "-1"}, {most, 2, strings.Repeat("1", 32), "-1"}, {most, 36, "1z141z3", "-1"}, {most - 254, 16, "ffffff01", "-ff"},
		{sign, 10, "2147483648", "-2147483648"}, {sign, 2, "1" + strings.Repeat("0", 31), "-1" + strings.Repeat("0", 31)}, {sign, 36, "zik0zk", "-zik0zk"},
		{sign - 1, 10, "2147483647", "2147483647"}, {sign - 1, 2, strings.Repeat("1", 31), strings.Repeat("1", 31)}, {sign + 1, 16, "80000001", "-7fffffff"},
	} {
		if got, e := digit.Show(c.n, c.base); got != c.shown || e != api.OK {
			t.Errorf("Show(%d, %d) = %q, %v; want %q", c.n, c.base, got, e, c.shown)
		}
		if got, e := digit.Signed(c.n, c.base); got != c.signed || e != api.OK {
			t.Errorf("Signed(%d, %d) = %q, %v; want %q", c.n, c.base, got, e, c.signed)
		}
	}
}

// P2.1, Right: bytes are counted, and a text that has so many stays as it is.
func TestRightAnswers(t *testing.T) {
	long := strings.Repeat("x", 300)
	for _, c := range []struct {
		s     string
		width uint32
		want  string
	}{
		{"", 0, ""}, {"", 3, "   "}, {"ab", 0, "ab"}, {"ab", 1, "ab"}, {"ab", 2, "ab"}, {"ab", 3, " ab"}, {"ab", 5, "   ab"}, {" a", 3, "  a"}, {"a ", 3, " a "},
		{"\u00e4", 3, " \u00e4"}, {"\xff\x00", 4, "  \xff\x00"}, {"7", 255, strings.Repeat(" ", 254) + "7"}, {"", 255, strings.Repeat(" ", 255)}, {long, 255, long}, {long[:254], 255, " " + long[:254]}, {long[:255], 255, long[:255]},
	} {
		if got, e := digit.Right(c.s, c.width); got != c.want || e != api.OK {
			t.Errorf("Right(%q, %d) = %q, %v; want %q", c.s, c.width, got, e, c.want)
		}
	}
	for _, width := range []uint32{256, 257, 1 << 16, sign, sign + 3, most} {
		for _, s := range []string{"", "ab", long} {
			if got, e := digit.Right(s, width); got != "" || e != api.ErrArg {
				t.Errorf("Right(%q, %d) = %q, %v", s, width, got, e)
			}
		}
	}
}

// P2.1, Literal: each letter, small and great, and none.
func TestLiteralAnswers(t *testing.T) {
	for _, c := range []struct {
		s    string
		want uint32
	}{
		{"0", 0}, {"31", 31}, {"-7", neg(7)}, {"-0", 0}, {"4294967295", most}, {"-4294967295", 1}, {"0010", 10},
		{"h#1f", 31}, {"H#1f", 31}, {"h#1F", 31}, {"h#10", 16}, {"h#-ff", 0xffffff01}, {"H#ffffffff", most}, {"h#d", 13}, {"h#b", 11},
		{"o#17", 15}, {"O#17", 15}, {"o#-10", neg(8)}, {"o#37777777777", most},
		{"b#101", 5}, {"B#101", 5}, {"b#-101", neg(5)}, {"d#10", 10}, {"D#10", 10}, {"d#-1", most},
	} {
		if got, ok := digit.Literal(c.s); got != c.want || !ok {
			t.Errorf("Literal(%q) = %d, %v; want %d", c.s, got, ok, c.want)
		}
	}
	for _, s := range []string{
		"", "-", "#", "#1", "##1", "h", "h#", "H#", "o#", "b#", "d#", "h#-", "h1f", "1f", "ff", "h#g", "o#8", "b#2", "d#a", "x#1", "a#1", "z#1", "1#1", "g#1", "-h#1", "h#--1", "h#h#1", "d#h#1", "h##1", "hh#1", " h#1", "h #1", "h# 1", "h#1 ", " 1", "1 ",
		"4294967296", "-4294967296", "h#100000000", "h#-100000000", "o#40000000000", "b#1" + strings.Repeat("0", 32), "d#4294967296", "\x00#1", "(#1", "H#\xff",
	} {
		if got, ok := digit.Literal(s); got != 0 || ok {
			t.Errorf("Literal(%q) = %d, %v; want none", s, got, ok)
		}
	}
}
