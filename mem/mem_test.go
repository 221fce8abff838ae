package mem_test

import (
	"bytes"
	"math"
	"slices"
	"strings"
	"testing"

	"tinder/api"
	"tinder/mem"
)

const most = uint32(math.MaxUint32)

// upTo: a memory of n bytes of which none near another is like it; the spare room behind it is none of it.
func upTo(n int) []byte {
	m := make([]byte, n, n+16)
	for i := range m {
		m[i] = byte(i%251) + 1
	}
	return m
}

// lengths: of memories, around all that the document names, and longer than MaxMem.
func lengths() []int {
	return []int{0, 1, 2, 3, 4, 5, 6, 7, 8, 9, 4091, 4092, 4093, 4094, 4095, 4096, 4097, 4098, 4099, 4100, 5000, 1 << 17}
}

// places: addresses and counts in a memory of so many bytes, around its end, and behind it up to the greatest, where sums wrap round.
func places(length int) []uint32 {
	l := []uint32{0, 1, 2, 3, 4, 7, 8, 1 << 16, 1<<31 - 1, 1 << 31, 1<<31 + 1, most - 8, most - 7, most - 4, most - 3, most - 2, most - 1, most}
	for d := range uint32(6) {
		end := uint32(length)
		// Of a short memory these wrap round to the greatest numbers, which are wanted as well.
		l = append(l, end+d, end-d, -end+d, -end-d)
	}
	slices.Sort(l)
	return slices.Compact(l)
}

// lies: is each byte of the stretch in a memory of so many?
func lies(length int, addr, n uint32) bool {
	return int64(addr)+int64(n) <= int64(length)
}

// same: the memory that is wanted, or with an error none.
func same(t *testing.T, got []byte, e api.Errno, want []byte, wantE api.Errno, name string, args ...uint32) {
	t.Helper()
	if e != wantE || !bytes.Equal(got, want) {
		t.Errorf("%s%v: %s, %v; want %s, %v", name, args, brief(got), e, brief(want), wantE)
	}
}

// brief: the bytes, if they are few.
func brief(m []byte) string {
	if len(m) > 32 {
		m = m[:32]
	}
	var b strings.Builder
	for _, c := range m {
		b.WriteByte("0123456789abcdef"[c>>4])
		b.WriteByte("0123456789abcdef"[c&15])
	}
	return b.String()
}

// refusal: what the document says of a number's place, in its order.
func refusal(length int, addr, size uint32) api.Errno {
	switch {
	case size != 1 && size != 2 && size != 4:
		return api.ErrArg
	case addr&(size-1) != 0:
		return api.ErrAlign
	case !lies(length, addr, size):
		return api.ErrAddr
	}
	return api.OK
}

// P4.1: the document's own examples.
func TestExamples(t *testing.T) {
	m := []byte{1, 2, 3, 4, 5}
	if v, e := mem.Fetch(m, 0, 4); v != 0x01020304 || e != api.OK {
		t.Errorf("Fetch(0, 4): %x, %v", v, e)
	}
	if v, e := mem.Fetch(m, 1, 2); v != 0 || e != api.ErrAlign {
		t.Errorf("Fetch(1, 2): %x, %v", v, e)
	}
	if v, e := mem.Fetch(m, 4, 4); v != 0 || e != api.ErrAddr {
		t.Errorf("Fetch(4, 4): %x, %v", v, e)
	}
	if s, e := mem.Text(m, 5, 0); s != "" || e != api.OK {
		t.Errorf("Text(5, 0): %q, %v", s, e)
	}
	x, e := mem.Move(m, 0, 1, 4)
	same(t, x, e, []byte{1, 1, 2, 3, 4}, api.OK, "Move", 0, 1, 4)
	if v, e := mem.Compare(m, 0, 1, 2); v != most || e != api.OK {
		t.Errorf("Compare(0, 1, 2): %x, %v", v, e)
	}
	x, at, e := mem.Allot(m, 2)
	same(t, x, e, []byte{1, 2, 3, 4, 5, 0, 0, 0, 0, 0}, api.OK, "Allot", 2)
	if at != 8 {
		t.Errorf("Allot(2): at %d", at)
	}
}

// P4.1: numbers of each size, written out.
func TestFetchOrdinary(t *testing.T) {
	m := []byte{0x80, 0x01, 0xfe, 0x7f, 0xff, 0xff, 0xff, 0xff, 0x00, 0x00, 0x00, 0x01}
	for _, c := range []struct{ addr, size, want uint32 }{
		{0, 1, 0x80}, {1, 1, 0x01}, {2, 1, 0xfe}, {3, 1, 0x7f}, {11, 1, 1},
		{0, 2, 0x8001}, {2, 2, 0xfe7f}, {4, 2, 0xffff}, {8, 2, 0}, {10, 2, 1},
		{0, 4, 0x8001fe7f}, {4, 4, most}, {8, 4, 1},
	} {
		if v, e := mem.Fetch(m, c.addr, c.size); v != c.want || e != api.OK {
			t.Errorf("Fetch(%d, %d): %x, %v; want %x", c.addr, c.size, v, e, c.want)
		}
	}
}

// P4.1: only the lowest bytes are stored, the highest of them first.
func TestStoreOrdinary(t *testing.T) {
	m := []byte{1, 2, 3, 4, 5, 6, 7, 8}
	for _, c := range []struct {
		addr, size, v uint32
		want          []byte
	}{
		{0, 1, 0xaabbccdd, []byte{0xdd, 2, 3, 4, 5, 6, 7, 8}},
		{7, 1, 0x100, []byte{1, 2, 3, 4, 5, 6, 7, 0}},
		{2, 2, 0xaabbccdd, []byte{1, 2, 0xcc, 0xdd, 5, 6, 7, 8}},
		{6, 2, 0x10000, []byte{1, 2, 3, 4, 5, 6, 0, 0}},
		{4, 4, 0xaabbccdd, []byte{1, 2, 3, 4, 0xaa, 0xbb, 0xcc, 0xdd}},
		{0, 4, most, []byte{255, 255, 255, 255, 5, 6, 7, 8}},
	} {
		got, e := mem.Store(m, c.addr, c.size, c.v)
		same(t, got, e, c.want, api.OK, "Store", c.addr, c.size, c.v)
	}
}

// P4.1: which numbers' places are refused, and how: ErrArg ahead of ErrAlign ahead of ErrAddr.
func TestNumbersRefused(t *testing.T) {
	for _, length := range lengths() {
		m := upTo(length)
		for _, size := range []uint32{0, 1, 2, 3, 4, 5, 6, 7, 8, 16, 255, 256, 257, 1 << 16, 1<<16 + 4, 1 << 31, most - 3, most - 1, most} {
			for _, addr := range places(length) {
				want := refusal(length, addr, size)
				if v, e := mem.Fetch(m, addr, size); e != want || e != api.OK && v != 0 {
					t.Errorf("of %d: Fetch(%d, %d): %x, %v; want %v", length, addr, size, v, e, want)
				}
				if x, e := mem.Store(m, addr, size, most); e != want || e != api.OK && len(x) != 0 {
					t.Errorf("of %d: Store(%d, %d): %d bytes, %v; want %v", length, addr, size, len(x), e, want)
				}
			}
		}
	}
}

// P4.1: the orders in which errors are told, one by one.
func TestOrderOfErrors(t *testing.T) {
	m := upTo(6)
	for _, c := range []struct {
		name       string
		addr, size uint32
		want       api.Errno
	}{
		{"no size, not aligned, behind the end", 7, 3, api.ErrArg},
		{"no size, behind the end", most, 0, api.ErrArg},
		{"a size whose sum wraps round", 1, most, api.ErrArg},
		{"not aligned and behind the end", 7, 4, api.ErrAlign},
		{"not aligned, the sum wraps round", most, 2, api.ErrAlign},
		{"not aligned, the sum wraps round", most - 1, 4, api.ErrAlign},
		{"not aligned, half behind the end", 5, 2, api.ErrAlign},
		{"half behind the end", 4, 4, api.ErrAddr},
		{"at the end", 6, 1, api.ErrAddr},
		{"the sum wraps round to 0", most, 1, api.ErrAddr},
		{"the sum wraps round to 0", most - 1, 2, api.ErrAddr},
		{"the sum wraps round to 0", most - 3, 4, api.ErrAddr},
	} {
		if v, e := mem.Fetch(m, c.addr, c.size); v != 0 || e != c.want {
			t.Errorf("%s: Fetch(%d, %d): %x, %v; want %v", c.name, c.addr, c.size, v, e, c.want)
		}
		x, e := mem.Store(m, c.addr, c.size, 7)
		same(t, x, e, nil, c.want, "Store", c.addr, c.size)
	}
}

// P4.1: Text and Fill of stretches in every memory, and of those that aren't in it.
func TestTextAndFill(t *testing.T) {
	for _, length := range lengths() {
		m := upTo(length)
		for _, addr := range places(length) {
			for _, n := range places(length) {
				wantE, wantText, wantFill := api.ErrAddr, "", []byte(nil)
				if lies(length, addr, n) {
					wantE, wantText, wantFill = api.OK, string(m[addr:addr+n]), upTo(length)
					for i := range n {
						wantFill[addr+i] = 0xfe
					}
				}
				if s, e := mem.Text(m, addr, n); s != wantText || e != wantE {
					t.Errorf("of %d: Text(%d, %d): %d bytes, %v; want %v", length, addr, n, len(s), e, wantE)
				}
				x, e := mem.Fill(m, addr, n, 0xaabbccfe)
				same(t, x, e, wantFill, wantE, "Fill", addr, n)
			}
		}
	}
}

// P4.1: Put, of texts of any bytes, up to the memory's end and beyond.
func TestPut(t *testing.T) {
	for _, length := range lengths() {
		m := upTo(length)
		for _, s := range []string{"", "\x00", "a", "\xff\xfe", "abc", "\x00\x80\xc3", "abcd", "é€", strings.Repeat("z", 4095), strings.Repeat("z", 4096), strings.Repeat("z", 4097)} {
			for _, addr := range append(places(length), uint32(length-len(s)), uint32(length-len(s)+1)) {
				want, wantE := []byte(nil), api.ErrAddr
				if lies(length, addr, uint32(len(s))) {
					want, wantE = upTo(length), api.OK
					for i := range len(s) {
						want[int(addr)+i] = s[i]
					}
				}
				got, e := mem.Put(m, addr, s)
				same(t, got, e, want, wantE, "Put", addr, uint32(len(s)))
			}
		}
	}
}

// P4.1: Move of every stretch of a small memory, to every place, so that they lie over one another in both directions.
func TestMoveEverywhere(t *testing.T) {
	for length := range 10 {
		m := upTo(length)
		for from := range uint32(length + 3) {
			for to := range uint32(length + 3) {
				for n := range uint32(length + 3) {
					want, wantE := []byte(nil), api.ErrAddr
					if lies(length, from, n) && lies(length, to, n) {
						want, wantE = upTo(length), api.OK
						for i := range n {
							want[to+i] = m[from+i]
						}
					}
					got, e := mem.Move(m, from, to, n)
					same(t, got, e, want, wantE, "Move", from, to, n)
				}
			}
		}
	}
}

// P4.1: stretches of long memories that lie over one another.
func TestMoveOverlapping(t *testing.T) {
	for _, length := range []int{4096, 5000, 1 << 17} {
		m, end := upTo(length), uint32(length)
		for _, c := range []struct{ from, to, n uint32 }{
			{0, 1, end - 1}, {1, 0, end - 1}, {0, 0, end}, {0, 4, end - 4}, {4, 0, end - 4}, {0, end / 2, end / 2}, {end / 2, 0, end / 2}, {7, 1000, 2000}, {1000, 7, 2000}, {end, 0, 0}, {0, end, 0}, {end, end, 0},
		} {
			want := upTo(length)
			for i := range c.n {
				want[c.to+i] = m[c.from+i]
			}
			got, e := mem.Move(m, c.from, c.to, c.n)
			same(t, got, e, want, api.OK, "Move", c.from, c.to, c.n)
		}
	}
}

// P4.1: Move and Compare refuse if one of the two stretches isn't in the memory, whichever.
func TestTwoStretchesRefused(t *testing.T) {
	for _, length := range []int{0, 1, 5, 8, 4096, 4099} {
		m := upTo(length)
		for _, a := range places(length) {
			for _, b := range places(length) {
				for _, n := range places(length) {
					wantE := api.ErrAddr
					if lies(length, a, n) && lies(length, b, n) {
						wantE = api.OK
					}
					if x, e := mem.Move(m, a, b, n); e != wantE || e == api.OK && len(x) != length || e != api.OK && len(x) != 0 {
						t.Fatalf("of %d: Move(%d, %d, %d): %d bytes, %v; want %v", length, a, b, n, len(x), e, wantE)
					}
					if v, e := mem.Compare(m, a, b, n); e != wantE || e != api.OK && v != 0 {
						t.Fatalf("of %d: Compare(%d, %d, %d): %x, %v; want %v", length, a, b, n, v, e, wantE)
					}
				}
			}
		}
	}
}

// P4.1: Compare tells the first place where the stretches are unlike, bytes being from 0 to 255.
func TestCompare(t *testing.T) {
	for _, c := range []struct {
		name string
		m    string
		a, b uint32
		n    uint32
		want uint32
	}{
		{"none of none", "", 0, 0, 0, 0},
		{"none at the end", "ab", 2, 0, 0, 0},
		{"one and itself", "ab", 1, 1, 1, 0},
		{"less", "ab", 0, 1, 1, most},
		{"greater", "ab", 1, 0, 1, 1},
		{"alike", "abcabc", 0, 3, 3, 0},
		{"less at the last place", "abcabd", 0, 3, 3, most},
		{"greater at the last place", "abdabc", 0, 3, 3, 1},
		{"less first, greater then", "azbabb", 2, 0, 2, 1},
		{"greater first, less then", "baab", 0, 2, 2, 1},
		{"the first place counts", "abba", 0, 2, 2, most},
		{"128 is greater than 127", "\x80\x7f", 0, 1, 1, 1},
		{"255 is greater than 0", "\xff\x00", 0, 1, 1, 1},
		{"0 is less than 255", "\xff\x00", 1, 0, 1, most},
		{"what lies behind does not count", "axay", 0, 2, 1, 0},
		{"over one another, alike", "aaaaa", 0, 1, 4, 0},
		{"over one another, less", "aaaab", 0, 1, 4, most},
		{"over one another, greater", "aaaab", 1, 0, 4, 1},
	} {
		if v, e := mem.Compare([]byte(c.m), c.a, c.b, c.n); v != c.want || e != api.OK {
			t.Errorf("%s: %x, %v; want %x", c.name, v, e, c.want)
		}
	}
}

// P4.1: Compare of every two bytes.
func TestCompareEveryByte(t *testing.T) {
	for a := range 256 {
		for b := range 256 {
			want := uint32(0)
			if a > b {
				want = 1
			} else if a < b {
				want = most
			}
			if v, e := mem.Compare([]byte{byte(a), byte(b)}, 0, 1, 1); v != want || e != api.OK {
				t.Errorf("Compare of %d and %d: %x, %v", a, b, v, e)
			}
		}
	}
}

// P4.1: Allot, of memories of every length, up to a full one and a byte beyond it.
func TestAllot(t *testing.T) {
	for length := range api.MaxMem + 10 {
		m, at := upTo(length), (length+3)/4*4
		left := api.MaxMem - at
		for _, n := range []int{0, 1, 2, 3, 4, 5, left - 1, left, left + 1, left + 2, left + 3, left + 4} {
			if n < 0 {
				continue
			}
			allots(t, m, at, uint32(n))
		}
		for _, n := range []uint32{1 << 16, 1<<31 - 1, 1 << 31, most - uint32(length), -uint32(at), -uint32(at) + 4, most - 3, most} {
			allots(t, m, at, n)
		}
	}
	for _, length := range []int{5000, 1 << 17} {
		for _, n := range []uint32{0, 1, most, -uint32(length), 4096 - uint32(length)} {
			allots(t, upTo(length), length, n)
		}
	}
}

// allots: holds one Allot against what the document says; at is where the new bytes begin.
func allots(t *testing.T, m []byte, at int, n uint32) {
	t.Helper()
	want, wantAt, wantE := []byte(nil), uint32(0), api.ErrRoom
	if int64(at)+int64(n) <= 4096 {
		want, wantAt, wantE = make([]byte, at+int(n)), uint32(at), api.OK
		for i, b := range m {
			want[i] = b
		}
	}
	got, gotAt, e := mem.Allot(m, n)
	same(t, got, e, want, wantE, "Allot", uint32(len(m)), n)
	if gotAt != wantAt {
		t.Errorf("Allot(%d) of %d: at %d; want %d", n, len(m), gotAt, wantAt)
	}
}

// P4.1: an empty memory, nil or not, of which nothing but stretches of no bytes can be had.
func TestEmptyMemory(t *testing.T) {
	for _, m := range [][]byte{nil, {}, make([]byte, 0, 16)} {
		if s, e := mem.Text(m, 0, 0); s != "" || e != api.OK {
			t.Errorf("Text: %q, %v", s, e)
		}
		if v, e := mem.Compare(m, 0, 0, 0); v != 0 || e != api.OK {
			t.Errorf("Compare: %x, %v", v, e)
		}
		if v, e := mem.Fetch(m, 0, 1); v != 0 || e != api.ErrAddr {
			t.Errorf("Fetch: %x, %v", v, e)
		}
		x, e := mem.Store(m, 0, 4, 1)
		same(t, x, e, nil, api.ErrAddr, "Store")
		x, e = mem.Put(m, 0, "")
		same(t, x, e, nil, api.OK, "Put of none")
		x, e = mem.Put(m, 0, "a")
		same(t, x, e, nil, api.ErrAddr, "Put")
		x, e = mem.Fill(m, 0, 0, 9)
		same(t, x, e, nil, api.OK, "Fill of none")
		x, e = mem.Fill(m, 1, 0, 9)
		same(t, x, e, nil, api.ErrAddr, "Fill of none behind the end")
		x, e = mem.Move(m, 0, 0, 0)
		same(t, x, e, nil, api.OK, "Move of none")
		allots(t, m, 0, 0)
		allots(t, m, 0, 4096)
		allots(t, m, 0, 4097)
	}
}
