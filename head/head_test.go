package head_test

import (
	"bytes"
	"encoding/hex"
	"slices"
	"strings"
	"testing"

	"tinder/api"
	"tinder/head"
)

// row: the bytes that hexadecimal digits tell, blanks between them.
func row(digits string) []byte {
	b, err := hex.DecodeString(strings.ReplaceAll(digits, " ", ""))
	if err != nil {
		panic(err)
	}
	return b
}

// taken: that bytes are a program with this body.
func taken(t *testing.T, b, body []byte, wide bool) {
	t.Helper()
	got, is, e := head.Check(b)
	if e != api.OK || is != wide || !bytes.Equal(got, body) {
		t.Errorf("Check(%.40x), %d bytes: %.40x, %v, %v; want %.40x, %v", b, len(b), got, is, e, body, wide)
	}
}

// refused: that bytes are no program, and that nothing stands beside the error.
func refused(t *testing.T, b []byte) {
	t.Helper()
	if got, is, e := head.Check(b); e != api.ErrHead || is || len(got) != 0 {
		t.Errorf("Check(%.40x), %d bytes: %.40x, %v, %v; want ErrHead", b, len(b), got, is, e)
	}
}

// made: the program of a body, which must be one.
func made(t *testing.T, body []byte, wide bool) []byte {
	t.Helper()
	b, e := head.Make(body, wide)
	if e != api.OK || len(b) != len(body)+8 {
		t.Fatalf("Make of %d bytes, %v: %d bytes, %v", len(body), wide, len(b), e)
	}
	return b
}

// P14.1: the sum of the bytes, by 65536.
func TestSum(t *testing.T) {
	for _, c := range []struct {
		b    []byte
		want int
	}{
		{nil, 0},
		{[]byte{}, 0},
		{row("00"), 0},
		{row("00 00 00"), 0},
		{row("01"), 1},
		{row("7f"), 127},
		{row("80"), 128},
		{row("ff"), 255},
		{row("47 ff"), 0x146},
		{row("ff 47"), 0x146},
		{row("ff 01"), 256},
		{row("01 02 03 04"), 10},
		{bytes.Repeat(row("ff"), 256), 65280},
		{bytes.Repeat(row("ff"), 257), 65535},
		{append(bytes.Repeat(row("ff"), 257), 1), 0},
		{append(bytes.Repeat(row("ff"), 257), 2), 1},
		{bytes.Repeat(row("ff"), 258), 254},
		{bytes.Repeat(row("80"), 511), 65408},
		{bytes.Repeat(row("80"), 512), 0},
		{bytes.Repeat(row("80"), 513), 128},
		{bytes.Repeat(row("ff"), 8184), 8184 * 255 % 65536},
		{bytes.Repeat(row("ff"), 8185), 8185 * 255 % 65536},
		{bytes.Repeat(row("ff"), 1<<20), 1 << 20 * 255 % 65536},
		{bytes.Repeat(row("ff"), 1<<20+1), 255},
	} {
		if got := head.Sum(c.b); got != c.want {
			t.Errorf("Sum(%.40x), %d bytes: %d; want %d", c.b, len(c.b), got, c.want)
		}
	}
}

// P14.1: programs as bytes, made and checked.
func TestPrograms(t *testing.T) {
	for _, c := range []struct {
		body    []byte
		wide    bool
		program []byte
	}{
		{row("47 ff"), true, row("f1 08 01 46 00 00 00 0a 47 ff")},
		{row("47 ff"), false, row("fd 08 01 46 00 00 00 0a 47 ff")},
		{nil, false, row("fd 08 00 00 00 00 00 08")},
		{nil, true, row("f1 08 00 00 00 00 00 08")},
		{[]byte{}, true, row("f1 08 00 00 00 00 00 08")},
		{row("00"), false, row("fd 08 00 00 00 00 00 09 00")},
		{row("01"), true, row("f1 08 00 01 00 00 00 09 01")},
		{row("ff"), false, row("fd 08 00 ff 00 00 00 09 ff")},
		{row("fe 02"), true, row("f1 08 01 00 00 00 00 0a fe 02")},
		{row("f1 08 00 00 00 00 00 08"), true, row("f1 08 01 01 00 00 00 10 f1 08 00 00 00 00 00 08")},
		{make([]byte, 247), true, append(row("f1 08 00 00 00 00 00 ff"), make([]byte, 247)...)},
		{make([]byte, 248), false, append(row("fd 08 00 00 00 00 01 00"), make([]byte, 248)...)},
		{bytes.Repeat(row("ff"), 257), true, append(row("f1 08 ff ff 00 00 01 09"), bytes.Repeat(row("ff"), 257)...)},
		{bytes.Repeat(row("ff"), 258), true, append(row("f1 08 00 fe 00 00 01 0a"), bytes.Repeat(row("ff"), 258)...)},
		{bytes.Repeat(row("80"), 512), false, append(row("fd 08 00 00 00 00 02 08"), bytes.Repeat(row("80"), 512)...)},
		{bytes.Repeat(row("01"), 4096), false, append(row("fd 08 10 00 00 00 10 08"), bytes.Repeat(row("01"), 4096)...)},
		{bytes.Repeat(row("ff"), 8184), true, append(row("f1 08 d8 08 00 00 20 00"), bytes.Repeat(row("ff"), 8184)...)},
	} {
		if got, e := head.Make(c.body, c.wide); e != api.OK || !bytes.Equal(got, c.program) {
			t.Errorf("Make(%.40x), %d bytes, %v: %.40x, %v; want %.40x", c.body, len(c.body), c.wide, got, e, c.program)
		}
		taken(t, c.program, c.body, c.wide)
	}
}

// P14.1: a program has at most MaxFCode bytes, its header included.
func TestLongestBody(t *testing.T) {
	for _, wide := range []bool{false, true} {
		for _, n := range []int{8182, 8183, 8184} {
			body := bytes.Repeat(row("a5"), n)
			taken(t, made(t, body, wide), body, wide)
		}
		for _, n := range []int{8185, 8186, 8191, 8192, 8193, 8200, 65536, 1 << 20} {
			if b, e := head.Make(bytes.Repeat(row("a5"), n), wide); e != api.ErrLong || len(b) != 0 {
				t.Errorf("Make of %d bytes, %v: %.40x, %v; want ErrLong", n, wide, b, e)
			}
		}
	}
}

// P14.1: fewer than 8 bytes are no program, whatever they say.
func TestShortBytes(t *testing.T) {
	refused(t, nil)
	for _, digits := range []string{"f1 08 00 00 00 00 00 08", "fd 08 00 00 00 00 00 07", "fd 08 00 00 00 00 00 00", "00 00 00 00 00 00 00 00"} {
		for n := range 8 {
			refused(t, row(digits)[:n])
			refused(t, slices.Clip(row(digits)[:n]))
		}
	}
	taken(t, row("f1 08 00 00 00 00 00 08"), nil, true)
	taken(t, row("fd 08 00 00 00 00 00 08"), nil, false)
}

// P14.1: more than MaxFCode bytes are none, though the length within them may be a right one.
func TestLongBytes(t *testing.T) {
	for _, wide := range []bool{false, true} {
		for _, n := range []int{0, 1, 300, 8183, 8184} {
			body := bytes.Repeat(row("c3"), n)
			b := made(t, body, wide)
			full := append(b, make([]byte, api.MaxFCode-len(b))...)
			taken(t, full, body, wide)
			for _, more := range []int{1, 2, 8, 8192, 65536} {
				refused(t, append(slices.Clone(full), make([]byte, more)...))
			}
		}
	}
	refused(t, append(row("f1 08 00 00 00 00 20 01"), make([]byte, 8185)...))
}

// P14.1: the first byte is f1 or fd and no other one.
func TestFirstByte(t *testing.T) {
	for n := range 256 {
		b := row("00 08 01 46 00 00 00 0a 47 ff")
		b[0] = byte(n)
		switch n {
		case 0xf1, 0xfd:
			taken(t, b, row("47 ff"), n == 0xf1)
		default:
			refused(t, b)
		}
	}
}

// P14.1: the second byte is 8.
func TestSecondByte(t *testing.T) {
	for _, first := range []byte{0xf1, 0xfd} {
		for n := range 256 {
			b := []byte{first, byte(n), 0, 0, 0, 0, 0, 8}
			if n == 8 {
				taken(t, b, nil, first == 0xf1)
			} else {
				refused(t, b)
			}
		}
	}
}

// P14.1: both bytes of the sum, the highest first, must be right.
func TestSumOfHeader(t *testing.T) {
	for _, first := range []byte{0xf1, 0xfd} {
		for n := range 65536 {
			b := append([]byte{first, 8, byte(n >> 8), byte(n), 0, 0, 0, 11}, 0xff, 0x47, 0xc8)
			if n == 0x20e {
				taken(t, b, b[8:], first == 0xf1)
			} else {
				refused(t, b)
			}
		}
	}
	refused(t, row("f1 08 46 01 00 00 00 0a 47 ff"))
	refused(t, row("fd 08 00 01 00 00 00 08"))
	refused(t, row("fd 08 ff ff 00 00 00 08"))
	refused(t, row("fd 08 01 00 00 00 00 08"))
}

// P14.1: the length is from 8 to the number of bytes: as no byte here counts for anything in the sum, nothing else may refuse one.
func TestLengths(t *testing.T) {
	for _, n := range []int{8, 9, 10, 255, 256, 257, 300, 4096, 8191, 8192} {
		lengths := []int{0, 1, 6, 7, 8, 9, n - 2, n - 1, n, n + 1, n + 2, n + 8, 255, 256, 257, 8184, 8191, 8192, 8193, 8200, 65535}
		for _, size := range lengths {
			b := make([]byte, n)
			copy(b, []byte{0xfd, 8, 0, 0, 0, 0, byte(size >> 8), byte(size)})
			if size >= 8 && size <= n {
				taken(t, b, make([]byte, size-8), false)
			} else {
				refused(t, b)
			}
		}
	}
}

// P14.1: all four bytes of the length count, and none of them is a sign.
func TestHighBytesOfLength(t *testing.T) {
	for _, digits := range []string{
		"00 01 00 08", "00 01 00 0a", "00 80 00 08", "00 ff 00 09", "00 ff ff ff",
		"01 00 00 08", "01 00 00 0a", "7f 00 00 08", "7f ff ff ff",
		"80 00 00 00", "80 00 00 08", "80 00 00 0a", "ff 00 00 08", "ff ff 00 0a", "ff ff ff f8", "ff ff ff ff",
		"08 00 00 00", "00 08 00 00", "00 00 08 00", "0a 00 00 00",
	} {
		for _, n := range []int{8, 9, 10, 20} {
			b := make([]byte, n)
			copy(b, slices.Concat(row("f1 08 00 00"), row(digits)))
			refused(t, b)
		}
	}
}

// P14.1: bytes behind the length count for nothing, neither in the body nor in the sum.
func TestBytesBehind(t *testing.T) {
	taken(t, row("f1 08 01 46 00 00 00 0a 47 ff 01"), row("47 ff"), true)
	taken(t, row("fd 08 01 46 00 00 00 0a 47 ff 01 02 03"), row("47 ff"), false)
	taken(t, row("fd 08 00 00 00 00 00 08 47 ff"), nil, false)
	taken(t, row("f1 08 00 47 00 00 00 09 47 ff"), row("47"), true)
	refused(t, row("f1 08 01 46 00 00 00 09 47 ff"))
	refused(t, row("f1 08 01 47 00 00 00 0a 47 ff 01"))
	refused(t, row("f1 08 01 46 00 00 00 0b 47 ff"))
	refused(t, row("f1 08 01 46 00 00 00 0b 47 ff 01"))
	taken(t, row("f1 08 01 47 00 00 00 0b 47 ff 01"), row("47 ff 01"), true)
}

// P14.1: the header's own bytes are not summed.
func TestHeaderIsNotSummed(t *testing.T) {
	refused(t, row("f1 08 02 49 00 00 00 0a 47 ff"))
	refused(t, row("f1 08 02 4f 00 00 00 0a 47 ff"))
	refused(t, row("fd 08 01 50 00 00 00 0a 47 ff"))
	refused(t, row("fd 08 00 08 00 00 00 08"))
	refused(t, row("fd 08 01 0d 00 00 00 08"))
}
