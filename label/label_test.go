package label_test

import (
	"bytes"
	"fmt"
	"slices"
	"strings"
	"testing"

	"tinder/api"
	"tinder/label"
)

// P21.1: labels byte by byte: where partitions stand, the highest byte first, what is between, the mark and the cross.
func TestMake(t *testing.T) {
	for _, c := range []struct {
		l     [8]api.Part
		ahead []byte
		cross [2]byte
	}{
		{parts(), nil, [2]byte{0xda, 0xbe}},
		{parts(2, 3), []byte{0, 0, 0, 2, 0, 0, 0, 3}, [2]byte{0xda, 0xbf}},
		{parts(64, 64), []byte{0, 0, 0, 64, 0, 0, 0, 64}, [2]byte{0xda, 0xbe}},
		{parts(1, 0, 0, 64), []byte{0, 0, 0, 1, 0, 0, 0, 0, 0, 0, 0, 0, 0, 0, 0, 64}, [2]byte{0xda, 0xff}},
		{parts(0, 0, 0, 0, 0, 0, 0, 0, 0, 0, 0, 0, 0, 0, 5, 6), append(make([]byte, 56), 0, 0, 0, 5, 0, 0, 0, 6), [2]byte{0xda, 0xbd}},
	} {
		want := make([]byte, 512)
		copy(want, c.ahead)
		copy(want[508:], []byte{0xda, 0xbe, c.cross[0], c.cross[1]})
		got, e := label.Make(c.l)
		same(t, fmt.Sprintf("Make(%v)", c.l), got, e, want, api.OK)
	}
}

// P21.1: each number of each partition, up to the limit and beyond, each alone and beside others that are right.
func TestMakeNumbers(t *testing.T) {
	for _, rest := range []uint32{0, 1, 64} {
		for k := range 8 {
			for _, n := range []uint32{0, 1, 2, 31, 32, 33, 63, 64, 65, 66, 127, 128, 255, 256, 257, 512, 1 << 16, 1<<16 + 1, 1 << 24, 1 << 31, 1<<32 - 64, 1<<32 - 1} {
				l := parts(slices.Repeat([]uint32{rest}, 16)...)
				l[k].Start = n
				made(t, l, n <= 64)
				l[k] = api.Part{Start: rest, Count: n}
				made(t, l, n <= 64)
			}
		}
	}
}

func made(t *testing.T, l [8]api.Part, right bool) {
	t.Helper()
	got, e := label.Make(l)
	if right {
		same(t, fmt.Sprintf("Make(%v)", l), got, e, written(l), api.OK)
		return
	}
	same(t, fmt.Sprintf("Make(%v)", l), got, e, nil, api.ErrArg)
}

// P21.1: labels of any numbers are parsed, those that Make refuses too.
func TestParse(t *testing.T) {
	for _, l := range [][8]api.Part{
		parts(),
		parts(1, 2, 3, 4, 5, 6, 7, 8, 9, 10, 11, 12, 13, 14, 15, 16),
		parts(65, 0),
		parts(0, 65),
		parts(1<<32-1, 1<<32-1, 1<<31, 1<<24, 1<<16, 1<<8, 0x01020304, 0xfffefdfc),
		parts(slices.Repeat([]uint32{1<<32 - 1}, 16)...),
	} {
		parsed(t, fmt.Sprintf("Parse(%v)", l), written(l), l, api.OK)
	}
}

// P21.1: only 512 bytes are a label, what stands in them and behind them may be right or not.
func TestParseLength(t *testing.T) {
	b := append(written(parts(2, 3)), make([]byte, 1024)...)
	for n := range len(b) + 1 {
		if n == 512 {
			parsed(t, "Parse(of 512)", b[:n], parts(2, 3), api.OK)
			continue
		}
		parsed(t, fmt.Sprintf("Parse(of %d)", n), b[:n], parts(), api.ErrLabel)
	}
	parsed(t, "Parse(nil)", nil, parts(), api.ErrLabel)
	parsed(t, "Parse(none, room for more)", b[:0], parts(), api.ErrLabel)
}

// P21.1: a place between the partitions and the cross that holds another byte, though all cross to noughts.
func TestParsePlaces(t *testing.T) {
	right := written(parts(2, 3))
	for at := 64; at < 510; at++ {
		for x := range 256 {
			if byte(x) == right[at] {
				continue
			}
			b := slices.Clone(right)
			b[at] = byte(x)
			parsed(t, fmt.Sprintf("Parse(%d is %d)", at, x), crossing(b), parts(), api.ErrLabel)
		}
	}
	b := slices.Clone(right)
	b[508], b[509] = 0xbe, 0xda
	parsed(t, "Parse(the mark turned round)", crossing(b), parts(), api.ErrLabel)
}

// P21.1: two places changed alike cross out, whether they are partitions' or what must be noughts.
func TestParseTwice(t *testing.T) {
	b := written(parts(2, 3))
	b[3], b[7] = b[3]^9, b[7]^9
	parsed(t, "Parse(two numbers)", b, parts(11, 10), api.OK)
	b[100], b[102] = 7, 7
	parsed(t, "Parse(two noughts)", b, parts(), api.ErrLabel)
	b = written(parts(2, 3))
	b[510], b[511] = b[511], b[510]
	parsed(t, "Parse(the cross turned round)", b, parts(), api.ErrLabel)
}

// P21.1: all bytes noughts, or all alike, are no label, nor is one that stands elsewhere in the bytes.
func TestParseNone(t *testing.T) {
	for x := range 256 {
		parsed(t, fmt.Sprintf("Parse(all %d)", x), bytes.Repeat([]byte{byte(x)}, 512), parts(), api.ErrLabel)
	}
	b := written(parts(2, 3))
	for n := 1; n < 512; n++ {
		parsed(t, fmt.Sprintf("Parse(turned by %d)", n), slices.Concat(b[n:], b[:n]), parts(), api.ErrLabel)
	}
}

// P21.1: all texts of up to two bytes, and those with a comma and a rest.
func TestSelect(t *testing.T) {
	selected(t, "", -1, "", api.OK)
	for x := range 256 {
		k := strings.IndexByte(letters, byte(x))
		one := string([]byte{byte(x)})
		picked(t, one, k, "")
		picked(t, one+",", k, "")
		picked(t, one+",,", k, ",")
		picked(t, one+",b", k, "b")
		for y := range 256 {
			selected(t, "b,"+one+string([]byte{byte(y)}), 1, one+string([]byte{byte(y)}), api.OK)
			if y != ',' {
				selected(t, one+string([]byte{byte(y)}), 0, "", api.ErrText)
				selected(t, one+string([]byte{byte(y)})+",x", 0, "", api.ErrText)
			}
		}
	}
	selected(t, ",", 0, "", api.ErrText)
	selected(t, ",a", 0, "", api.ErrText)
	selected(t, ",,", 0, "", api.ErrText)
}

// picked: that a letter and a rest, or what would be one, is answered so.
func picked(t *testing.T, arg string, k int, rest string) {
	t.Helper()
	if k < 0 {
		selected(t, arg, 0, "", api.ErrText)
		return
	}
	selected(t, arg, k, rest, api.OK)
}

func selected(t *testing.T, arg string, k int, rest string, we api.Errno) {
	t.Helper()
	if x, s, e := label.Select(arg); x != k || s != rest || e != we {
		t.Fatalf("Select(%.20q): %d, %.20q, %v; want %d, %.20q, %v", arg, x, s, e, k, rest, we)
	}
}

// P21.1: letters about those that there are, great ones, signs that look alike, and long texts.
func TestSelectTexts(t *testing.T) {
	for _, arg := range []string{"i", "`", "A", "H", "A,", "0", "1", "-1", " ", " a", "a ", "a\x00", "\x00", "aa", "abcdefgh", "a:b", "a;b", "a.b", "a/b", "ä", "ä,", "\xff", "а", "а,x", "a，x", "a\u00a0", "i,", "ab,c", "a b,c", "a\n", "\n", ";a"} {
		selected(t, arg, 0, "", api.ErrText)
	}
	long := strings.Repeat("xy,", 100000)
	selected(t, "h,"+long, 7, long, api.OK)
	selected(t, long, 0, "", api.ErrText)
	selected(t, "g,g", 6, "g", api.OK)
	selected(t, "a,\x00\xff\n", 0, "\x00\xff\n", api.OK)
}

// P21.1: windows of partitions that begin and end everywhere, on disks of each size.
func TestWindow(t *testing.T) {
	for _, sectors := range []int{1, 2, 3, 8, 63, 64} {
		for start := range 67 {
			for count := range 67 {
				d := disk(sectors, parts(uint32(start), uint32(count)))
				if count > 0 && start+count <= sectors {
					windowed(t, d, "a", 512*start, 512*count, api.OK)
				} else {
					windowed(t, d, "a", 0, 0, api.ErrLabel)
				}
			}
		}
	}
}

// P21.1: partitions of numbers whose sum wraps round, or that are no number of sectors at all.
func TestWindowWild(t *testing.T) {
	for _, p := range []api.Part{
		{Start: 1, Count: 1<<32 - 1}, {Start: 1<<32 - 1, Count: 1}, {Start: 1<<32 - 1, Count: 2}, {Start: 1<<32 - 1, Count: 3}, {Start: 1 << 31, Count: 1 << 31},
		{Start: 1<<31 + 1, Count: 1 << 31}, {Start: 1<<32 - 1}, {Count: 1<<32 - 1}, {Start: 1 << 23, Count: 1}, {Start: 1, Count: 1 << 23}, {Start: 256, Count: 1}, {Start: 0, Count: 257}, {Start: 8}, {Start: 64},
	} {
		windowed(t, disk(8, [8]api.Part{0: p}), "a", 0, 0, api.ErrLabel)
		windowed(t, disk(64, [8]api.Part{7: p}), "h,", 0, 0, api.ErrLabel)
	}
}

// P21.1: each letter tells its own partition, with a rest or without; the chapter's example is among them.
func TestWindowLetters(t *testing.T) {
	d := disk(8, parts(1, 1, 2, 3, 5, 1, 6, 1, 7, 1, 0, 8, 0, 1, 3, 5))
	want := [][2]int{{512, 512}, {1024, 1536}, {2560, 512}, {3072, 512}, {3584, 512}, {0, 4096}, {0, 512}, {1536, 2560}}
	for k, w := range want {
		for _, rest := range []string{"", ",", ",x", ",a", ",,", ",\x00"} {
			windowed(t, d, letters[k:k+1]+rest, w[0], w[1], api.OK)
		}
	}
	windowed(t, d, "", 0, 4096, api.OK)
}

// P21.1: nothing is the whole disk, whether it has a label or not.
func TestWindowWhole(t *testing.T) {
	for sectors := range 65 {
		windowed(t, make([]byte, 512*sectors), "", 0, 512*sectors, api.OK)
		windowed(t, make([]byte, 512*sectors), "a", 0, 0, api.ErrLabel)
	}
	windowed(t, nil, "", 0, 0, api.OK)
	windowed(t, nil, "a", 0, 0, api.ErrLabel)
	windowed(t, []byte{}, "h,x", 0, 0, api.ErrLabel)
}

// P21.1: lengths count, not the room behind them.
func TestWindowSpare(t *testing.T) {
	all := disk(8, parts(1, 1, 2, 3, 3, 1, 4, 1))
	d := all[:4*512]
	windowed(t, d, "", 0, 2048, api.OK)
	windowed(t, d, "b", 0, 0, api.ErrLabel)
	windowed(t, d, "c", 1536, 512, api.OK)
	windowed(t, d, "d", 0, 0, api.ErrLabel)
	windowed(t, all[:0], "a", 0, 0, api.ErrLabel)
	windowed(t, all[:1], "a", 0, 0, api.ErrArg)
	parsed(t, "Parse(of 511)", all[:511], parts(), api.ErrLabel)
	got, e := label.Get(d, "", 2047, 2)
	same(t, "Get", got, e, nil, api.ErrDisk)
	got, e = label.Put(d, "", 2047, []byte{1, 2})
	same(t, "Put", got, e, nil, api.ErrDisk)
}

// P21.1: a label counts in sector 0 alone, and only if it is right.
func TestWindowNoLabel(t *testing.T) {
	d := disk(4, parts(2, 2))
	windowed(t, slices.Concat(make([]byte, 512), d[:512]), "a", 0, 0, api.ErrLabel)
	for at := range 512 {
		x := slices.Clone(d)
		x[at] ^= 1
		windowed(t, x, "a", 0, 0, api.ErrLabel)
		windowed(t, x, "", 0, 2048, api.OK)
		got, e := label.Get(x, "a", 0, 1)
		same(t, "Get", got, e, nil, api.ErrLabel)
		got, e = label.Put(x, "a", 0, []byte{1})
		same(t, "Put", got, e, nil, api.ErrLabel)
	}
	windowed(t, d, "a", 1024, 1024, api.OK)
}

// P21.1: what is no disk comes first, then what is no argument, then the window, then the stretch.
func TestOrder(t *testing.T) {
	for _, n := range misfits() {
		d := make([]byte, n)
		copy(d, written(parts(1, 1)))
		for _, arg := range []string{"", "a", "b", "i", "a;"} {
			refused(t, d, arg, api.ErrArg)
		}
	}
	for _, d := range [][]byte{nil, make([]byte, 512), disk(4, parts(1, 1))} {
		for _, arg := range []string{"i", "a;", ",", "ab", "A"} {
			refused(t, d, arg, api.ErrText)
		}
		refused(t, d, "b", api.ErrLabel)
		refused(t, d, "c,x", api.ErrLabel)
	}
}

// refused: that all three calls answer this error, whatever the stretch.
func refused(t *testing.T, d []byte, arg string, we api.Errno) {
	t.Helper()
	windowed(t, d, arg, 0, 0, we)
	for _, at := range append(wild(), 0, 1, 512) {
		for _, n := range []int{-1, 0, 1, 4096} {
			got, e := label.Get(d, arg, at, n)
			same(t, fmt.Sprintf("Get(of %d, %q, %d, %d)", len(d), arg, at, n), got, e, nil, we)
			got, e = label.Put(d, arg, at, make([]byte, max(n, 0)))
			same(t, fmt.Sprintf("Put(of %d, %q, %d, of %d)", len(d), arg, at, n), got, e, nil, we)
		}
	}
}

// P21.1: stretches about both ends of a window amid the disk, and about those of the whole disk.
func TestStretches(t *testing.T) {
	d := disk(8, parts(1, 1, 2, 3))
	for _, w := range []struct {
		arg         string
		begin, size int
	}{{"b,x", 1024, 1536}, {"a", 512, 512}, {"", 0, 4096}} {
		for _, at := range []int{0, 1, 2, 510, 511, 512, 513, 1023, 1024, 1534, 1535, 1536, 1537, 2048, 3071, 3072, 3073, 4094, 4095, 4096, 4097} {
			for _, n := range []int{0, 1, 2, 3, 511, 512, 513, 1024, 1535, 1536, 1537, 3072, 4095, 4096, 4097} {
				stretched(t, d, w.arg, at, n, w.begin+at, at+n <= w.size)
			}
		}
	}
}

// stretched: that a stretch is got and put so, or refused.
func stretched(t *testing.T, d []byte, arg string, at, n, from int, right bool) {
	t.Helper()
	b := bytes.Repeat([]byte{0x5a}, n)
	want, all, we := []byte(nil), []byte(nil), api.ErrDisk
	if right {
		want, all, we = d[from:from+n], slices.Concat(d[:from], b, d[from+n:]), api.OK
	}
	got, e := label.Get(d, arg, at, n)
	same(t, fmt.Sprintf("Get(%q, %d, %d)", arg, at, n), got, e, want, we)
	got, e = label.Put(d, arg, at, b)
	same(t, fmt.Sprintf("Put(%q, %d, of %d)", arg, at, n), got, e, all, we)
}

// P21.1: places and lengths below 0 or whose sum wraps round, also where the disk has bytes there.
func TestWild(t *testing.T) {
	d := disk(8, parts(1, 1, 2, 3))
	for _, arg := range []string{"", "a", "b", "b,x"} {
		for _, x := range wild() {
			for _, y := range append(wild(), 0, 1, 512, 1024, 1536) {
				got, e := label.Get(d, arg, x, y)
				same(t, fmt.Sprintf("Get(%q, %d, %d)", arg, x, y), got, e, nil, api.ErrDisk)
				got, e = label.Get(d, arg, y, x)
				same(t, fmt.Sprintf("Get(%q, %d, %d)", arg, y, x), got, e, nil, api.ErrDisk)
			}
			for _, n := range []int{0, 1, 512, 513, 1024} {
				got, e := label.Put(d, arg, x, make([]byte, n))
				same(t, fmt.Sprintf("Put(%q, %d, of %d)", arg, x, n), got, e, nil, api.ErrDisk)
			}
		}
	}
}

// P21.1: the chapter's examples.
func TestExamples(t *testing.T) {
	d := disk(8, parts(0, 0, 2, 3))
	windowed(t, d, "b", 1024, 1536, api.OK)
	got, e := label.Get(d, "b,x", 1535, 1)
	same(t, "Get 1535", got, e, d[2559:2560], api.OK)
	got, e = label.Get(d, "b,x", 1536, 1)
	same(t, "Get 1536", got, e, nil, api.ErrDisk)
	selected(t, "i", 0, "", api.ErrText)
	selected(t, "a,", 0, "", api.OK)
}

// P21.1: of the whole disk the label is bytes like others; so it is in a partition that begins with sector 0.
func TestLabelInWindow(t *testing.T) {
	d := disk(4, parts(0, 2, 2, 2))
	got, e := label.Get(d, "", 508, 2)
	same(t, "Get of all", got, e, []byte{0xda, 0xbe}, api.OK)
	got, e = label.Get(d, "a", 508, 2)
	same(t, "Get of a", got, e, []byte{0xda, 0xbe}, api.OK)
	x, e := label.Put(d, "a", 508, []byte{0, 0})
	same(t, "Put", x, e, slices.Concat(d[:508], []byte{0, 0}, d[510:]), api.OK)
	windowed(t, x, "b", 0, 0, api.ErrLabel)
	next := written(parts(3, 1))
	x, e = label.Put(x, "", 0, next)
	same(t, "Put", x, e, slices.Concat(next, d[512:]), api.OK)
	windowed(t, x, "a", 1536, 512, api.OK)
}
