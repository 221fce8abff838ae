package cell_test

import (
	"math"
	"testing"

	"tinder/api"
	"tinder/cell"
)

const (
	yes  = uint32(math.MaxUint32)
	no   = uint32(0)
	sign = uint32(1) << 31
)

// neg is the cell whose signed value is -n.
func neg(n uint32) uint32 { return -n }

// P1.1, Bin: each number, at ordinary cells and at the edges.
func TestBinAnswers(t *testing.T) {
	for _, c := range []struct {
		op         int
		a, b, want uint32
	}{
		{0x1e, 2, 3, 5}, {0x1e, yes, 1, 0}, {0x1e, sign, sign, 0},
		{0x1f, 5, 3, 2}, {0x1f, 0, 1, yes}, {0x1f, sign, 1, sign - 1},
		{0x20, 6, 7, 42}, {0x20, yes, yes, 1}, {0x20, 1 << 16, 1 << 16, 0}, {0x20, neg(3), 5, neg(15)},
		{0x21, 7, 2, 3}, {0x21, neg(7), 2, neg(4)}, {0x21, 7, neg(2), neg(4)}, {0x21, neg(7), neg(2), 3},
		{0x21, sign, neg(1), sign}, {0x21, 0, neg(5), 0}, {0x21, neg(6), 2, neg(3)}, {0x21, sign, 1, sign},
		{0x22, 7, 2, 1}, {0x22, neg(7), 2, 1}, {0x22, 7, neg(2), neg(1)}, {0x22, neg(7), neg(2), neg(1)},
		{0x22, sign, neg(1), 0}, {0x22, neg(6), 2, 0}, {0x22, 1, sign, sign + 1},
		{0x23, 0xff00ff00, 0x0ff00ff0, 0x0f000f00},
		{0x24, 0xff00ff00, 0x0ff00ff0, 0xfff0fff0},
		{0x25, 0xff00ff00, 0x0ff00ff0, 0xf0f0f0f0},
		{0x27, 1, 4, 16}, {0x27, 3, 31, sign}, {0x27, 1, 32, 0}, {0x27, yes, 33, 0}, {0x27, yes, yes, 0}, {0x27, 5, 0, 5}, {0x27, yes, sign, 0},
		{0x28, 16, 4, 1}, {0x28, sign, 31, 1}, {0x28, yes, 32, 0}, {0x28, yes, yes, 0}, {0x28, sign, 0, sign}, {0x28, yes, 64, 0},
		{0x29, 16, 4, 1}, {0x29, sign, 4, 0xf8000000}, {0x29, sign, 31, yes}, {0x29, sign, 32, yes}, {0x29, sign, yes, yes},
		{0x29, sign - 1, 31, 0}, {0x29, sign - 1, 32, 0}, {0x29, sign - 1, yes, 0}, {0x29, sign, 0, sign},
		{0x2e, 3, 5, 3}, {0x2e, 5, 3, 3}, {0x2e, neg(1), 1, neg(1)}, {0x2e, sign, sign - 1, sign}, {0x2e, 4, 4, 4},
		{0x2f, 3, 5, 5}, {0x2f, 5, 3, 5}, {0x2f, neg(1), 1, 1}, {0x2f, sign, sign - 1, sign - 1}, {0x2f, 4, 4, 4},
	} {
		if got, e := cell.Bin(c.op, c.a, c.b); got != c.want || e != api.OK {
			t.Errorf("Bin(%x, %x, %x) = %x, %v; want %x", c.op, c.a, c.b, got, e, c.want)
		}
	}
}

// P1.1, Bin: the flags, each number at a pair below, at the same and above, of signed values and of cells.
func TestBinFlags(t *testing.T) {
	pairs := [][2]uint32{{1, 2}, {2, 2}, {2, 1}, {neg(1), 1}, {1, neg(1)}, {sign, sign - 1}, {sign - 1, sign}, {sign, sign}}
	for _, c := range []struct {
		op   int
		want [8]uint32
	}{
		{0x3a, [8]uint32{yes, no, no, yes, no, yes, no, no}},
		{0x3b, [8]uint32{no, no, yes, no, yes, no, yes, no}},
		{0x42, [8]uint32{no, yes, yes, no, yes, no, yes, yes}},
		{0x43, [8]uint32{yes, yes, no, yes, no, yes, no, yes}},
		{0x3c, [8]uint32{no, yes, no, no, no, no, no, yes}},
		{0x3d, [8]uint32{yes, no, yes, yes, yes, yes, yes, no}},
		{0x3e, [8]uint32{no, no, yes, yes, no, yes, no, no}},
		{0x3f, [8]uint32{yes, yes, no, no, yes, no, yes, yes}},
		{0x40, [8]uint32{yes, no, no, no, yes, no, yes, no}},
		{0x41, [8]uint32{no, yes, yes, yes, no, yes, no, yes}},
	} {
		for i, p := range pairs {
			if got, e := cell.Bin(c.op, p[0], p[1]); got != c.want[i] || e != api.OK {
				t.Errorf("Bin(%x, %x, %x) = %x, %v; want %x", c.op, p[0], p[1], got, e, c.want[i])
			}
		}
	}
}

// P1.1, Un: each number, at ordinary cells and at the edges.
func TestUnAnswers(t *testing.T) {
	for _, c := range []struct {
		op      int
		a, want uint32
	}{
		{0x26, 0, yes}, {0x26, 0x0f0f0f0f, 0xf0f0f0f0},
		{0x2c, 5, neg(5)}, {0x2c, neg(5), 5}, {0x2c, 0, 0}, {0x2c, sign, sign},
		{0x2d, 5, 5}, {0x2d, neg(5), 5}, {0x2d, 0, 0}, {0x2d, sign, sign}, {0x2d, sign - 1, sign - 1}, {0x2d, sign + 1, sign - 1},
		{0x57, 8, 4}, {0x57, neg(8), neg(4)}, {0x57, neg(1), neg(1)}, {0x57, sign, 0xc0000000}, {0x57, 1, 0},
		{0x58, 8, 4}, {0x58, yes, sign - 1}, {0x58, sign, 1 << 30}, {0x58, 1, 0},
		{0x59, 8, 16}, {0x59, sign, 0}, {0x59, yes, yes - 1},
		{0x80, 0x12345678, 0x7856}, {0x80, 0xffff0001, 0x0100}, {0x80, 0xff00, 0xff}, {0x80, yes, 0xffff},
		{0x81, 'a', 'A'}, {0x81, 'z', 'Z'}, {0x81, 'a' - 1, 'a' - 1}, {0x81, 'z' + 1, 'z' + 1}, {0x81, 'A', 'A'}, {0x81, 'a' + 256, 'a' + 256}, {0x81, 'm' + sign, 'm' + sign},
		{0x82, 'A', 'a'}, {0x82, 'Z', 'z'}, {0x82, 'A' - 1, 'A' - 1}, {0x82, 'Z' + 1, 'Z' + 1}, {0x82, 'a', 'a'}, {0x82, 'A' + 256, 'A' + 256}, {0x82, 'M' + sign, 'M' + sign},
	} {
		if got, e := cell.Un(c.op, c.a); got != c.want || e != api.OK {
			t.Errorf("Un(%x, %x) = %x, %v; want %x", c.op, c.a, got, e, c.want)
		}
	}
}

// P1.1, Un: the flags, each number at signed values below, at and above 0.
func TestUnFlags(t *testing.T) {
	cells := []uint32{sign, neg(1), 0, 1, sign - 1}
	for _, c := range []struct {
		op   int
		want [5]uint32
	}{
		{0x34, [5]uint32{no, no, yes, no, no}},
		{0x35, [5]uint32{yes, yes, no, yes, yes}},
		{0x36, [5]uint32{yes, yes, no, no, no}},
		{0x37, [5]uint32{yes, yes, yes, no, no}},
		{0x38, [5]uint32{no, no, no, yes, yes}},
		{0x39, [5]uint32{no, no, yes, yes, yes}},
	} {
		for i, a := range cells {
			if got, e := cell.Un(c.op, a); got != c.want[i] || e != api.OK {
				t.Errorf("Un(%x, %x) = %x, %v; want %x", c.op, a, got, e, c.want[i])
			}
		}
	}
}

// P1.1: numbers of other words are ErrNone, whatever the cells, and each number belongs to the calls that name it.
func TestOtherNumbers(t *testing.T) {
	bin := set(span(0x1e, 0x25), span(0x27, 0x29), span(0x2e, 0x2f), span(0x3a, 0x43))
	un := set(span(0x26, 0x26), span(0x2c, 0x2d), span(0x34, 0x39), span(0x57, 0x59), span(0x80, 0x82))
	divide := set(span(0x2a, 0x2b))
	wide := set([]int{0xd5, 0x1d5, 0x2d5})
	double := set([]int{0xd8, 0xd9})
	for _, op := range append(span(-0x300, 0x1000), math.MinInt, math.MaxInt, 1<<32+0x1e, 1<<32+0xd5) {
		for _, b := range []uint32{0, 1, yes} {
			x, e := cell.Bin(op, 6, b)
			refused(t, "Bin", op, !bin[op], x, 0, e)
			q, r, e := cell.Divide(op, 6, b)
			refused(t, "Divide", op, !divide[op], q, r, e)
			q, r, e = cell.Wide(op, 6, 0, b)
			refused(t, "Wide", op, !wide[op], q, r, e)
			x, e = cell.Un(op, b)
			refused(t, "Un", op, !un[op], x, 0, e)
			d, e := cell.Double(op, [2]uint32{6, 7}, [2]uint32{b, b})
			refused(t, "Double", op, !double[op], d[0], d[1], e)
		}
	}
}

func refused(t *testing.T, call string, op int, want bool, x, y uint32, e api.Errno) {
	t.Helper()
	if want != (e == api.ErrNone) {
		t.Errorf("%s(%x): %v; ErrNone wanted: %v", call, op, e, want)
	}
	if e != api.OK && (x != 0 || y != 0) {
		t.Errorf("%s(%x): %x, %x beside %v", call, op, x, y, e)
	}
}

func span(from, to int) []int {
	var all []int
	for op := from; op <= to; op++ {
		all = append(all, op)
	}
	return all
}

func set(lists ...[]int) map[int]bool {
	all := map[int]bool{}
	for _, list := range lists {
		for _, op := range list {
			all[op] = true
		}
	}
	return all
}

// P1.1: the errors of division, with noughts beside them.
func TestDivisionRefused(t *testing.T) {
	for _, a := range edges() {
		for _, op := range []int{0x21, 0x22} {
			if x, e := cell.Bin(op, a, 0); x != 0 || e != api.ErrZero {
				t.Errorf("Bin(%x, %x, 0) = %x, %v", op, a, x, e)
			}
		}
		for _, op := range []int{0x2a, 0x2b} {
			if q, r, e := cell.Divide(op, a, 0); q != 0 || r != 0 || e != api.ErrZero {
				t.Errorf("Divide(%x, %x, 0) = %x, %x, %v", op, a, q, r, e)
			}
		}
		for _, op := range []int{0xd5, 0x1d5, 0x2d5} {
			if q, r, e := cell.Wide(op, a, a, 0); q != 0 || r != 0 || e != api.ErrZero {
				t.Errorf("Wide(%x, %x, %x, 0) = %x, %x, %v", op, a, a, q, r, e)
			}
		}
	}
}

// P1.1, Divide.
func TestDivideAnswers(t *testing.T) {
	for _, c := range []struct {
		op         int
		a, b, q, r uint32
	}{
		{0x2a, 7, 2, 3, 1}, {0x2a, neg(7), 2, neg(4), 1}, {0x2a, 7, neg(2), neg(4), neg(1)}, {0x2a, neg(7), neg(2), 3, neg(1)},
		{0x2a, sign, neg(1), sign, 0}, {0x2a, sign, 1, sign, 0}, {0x2a, sign, sign - 1, neg(2), sign - 2}, {0x2a, sign - 1, sign, neg(1), neg(1)},
		{0x2b, 7, 2, 3, 1}, {0x2b, yes, 2, sign - 1, 1}, {0x2b, sign, yes, 0, sign}, {0x2b, yes, yes, 1, 0}, {0x2b, yes, 1, yes, 0},
	} {
		if q, r, e := cell.Divide(c.op, c.a, c.b); q != c.q || r != c.r || e != api.OK {
			t.Errorf("Divide(%x, %x, %x) = %x, %x, %v; want %x, %x", c.op, c.a, c.b, q, r, e, c.q, c.r)
		}
	}
}

// P1.1, Wide: up to the last quotient that fits, and the first one that does not.
func TestWideAnswers(t *testing.T) {
	for _, c := range []struct {
		op           int
		low, high, d uint32
		q, r         uint32
		e            api.Errno
	}{
		{0xd5, 7, 0, 2, 3, 1, api.OK},
		{0xd5, yes, 1, 2, yes, 1, api.OK}, {0xd5, 0, 2, 2, 0, 0, api.ErrRange}, {0xd5, 0, 1, 1, 0, 0, api.ErrRange},
		{0xd5, yes, yes - 1, yes, yes, yes - 1, api.OK}, {0xd5, yes, yes, yes, 0, 0, api.ErrRange},
		{0x1d5, 7, 0, 2, 3, 1, api.OK}, {0x1d5, neg(7), yes, 2, neg(3), neg(1), api.OK},
		{0x1d5, 7, 0, neg(2), neg(3), 1, api.OK}, {0x1d5, neg(7), yes, neg(2), 3, neg(1), api.OK},
		{0x1d5, sign - 1, 0, 1, sign - 1, 0, api.OK}, {0x1d5, sign, 0, 1, 0, 0, api.ErrRange},
		{0x1d5, sign, yes, 1, sign, 0, api.OK}, {0x1d5, sign - 1, yes, 1, 0, 0, api.ErrRange},
		{0x1d5, sign, yes, neg(1), 0, 0, api.ErrRange}, {0x1d5, 0, sign, neg(1), 0, 0, api.ErrRange}, {0x1d5, 0, sign, 1, 0, 0, api.ErrRange},
		{0x1d5, yes, yes, 2, 0, neg(1), api.OK}, {0x1d5, yes, 0, 2, sign - 1, 1, api.OK},
		{0x1d5, yes, yes - 1, 2, sign, neg(1), api.OK},
		{0x2d5, 7, 0, 2, 3, 1, api.OK}, {0x2d5, neg(7), yes, 2, neg(4), 1, api.OK},
		{0x2d5, 7, 0, neg(2), neg(4), neg(1), api.OK}, {0x2d5, neg(7), yes, neg(2), 3, neg(1), api.OK},
		{0x2d5, sign - 1, 0, 1, sign - 1, 0, api.OK}, {0x2d5, sign, 0, 1, 0, 0, api.ErrRange},
		{0x2d5, sign, yes, 1, sign, 0, api.OK}, {0x2d5, sign - 1, yes, 1, 0, 0, api.ErrRange},
		{0x2d5, sign, yes, neg(1), 0, 0, api.ErrRange}, {0x2d5, 0, sign, neg(1), 0, 0, api.ErrRange}, {0x2d5, 0, sign, 1, 0, 0, api.ErrRange},
		{0x2d5, yes, yes - 1, 2, 0, 0, api.ErrRange}, {0x2d5, 0, yes, 2, sign, 0, api.OK},
	} {
		if q, r, e := cell.Wide(c.op, c.low, c.high, c.d); q != c.q || r != c.r || e != c.e {
			t.Errorf("Wide(%x, %x, %x, %x) = %x, %x, %v; want %x, %x, %v", c.op, c.low, c.high, c.d, q, r, e, c.q, c.r, c.e)
		}
	}
}

// P1.1, Times and Double.
func TestDoubles(t *testing.T) {
	for _, c := range [][4]uint32{{6, 7, 42, 0}, {yes, yes, 1, yes - 1}, {1 << 16, 1 << 16, 0, 1}, {sign, 2, 0, 1}, {yes, 0, 0, 0}} {
		if low, high := cell.Times(c[0], c[1]); low != c[2] || high != c[3] {
			t.Errorf("Times(%x, %x) = %x, %x; want %x, %x", c[0], c[1], low, high, c[2], c[3])
		}
	}
	for _, c := range []struct {
		op         int
		a, b, want [2]uint32
	}{
		{0xd8, [2]uint32{1, 2}, [2]uint32{3, 4}, [2]uint32{4, 6}},
		{0xd8, [2]uint32{yes, 0}, [2]uint32{1, 0}, [2]uint32{0, 1}},
		{0xd8, [2]uint32{yes, yes}, [2]uint32{1, 0}, [2]uint32{0, 0}},
		{0xd8, [2]uint32{yes, yes}, [2]uint32{yes, yes}, [2]uint32{yes - 1, yes}},
		{0xd9, [2]uint32{4, 6}, [2]uint32{3, 4}, [2]uint32{1, 2}},
		{0xd9, [2]uint32{0, 1}, [2]uint32{1, 0}, [2]uint32{yes, 0}},
		{0xd9, [2]uint32{0, 0}, [2]uint32{1, 0}, [2]uint32{yes, yes}},
	} {
		if got, e := cell.Double(c.op, c.a, c.b); got != c.want || e != api.OK {
			t.Errorf("Double(%x, %x, %x) = %x, %v; want %x", c.op, c.a, c.b, got, e, c.want)
		}
	}
}

// P1.1, Join, Split and Signed.
func TestBytesAndSigns(t *testing.T) {
	for _, c := range []struct {
		parts [4]uint32
		want  uint32
	}{
		{[4]uint32{0x12, 0x34, 0x56, 0x78}, 0x78563412},
		{[4]uint32{0xffffff12, 0x134, 0x80000056, 0x178}, 0x78563412},
		{[4]uint32{0x100, 0x100, 0x100, 0x100}, 0},
		{[4]uint32{yes, yes, yes, yes}, yes},
	} {
		if got := cell.Join(c.parts); got != c.want {
			t.Errorf("Join(%x) = %x; want %x", c.parts, got, c.want)
		}
	}
	if got := cell.Split(0x78563412); got != [4]uint32{0x12, 0x34, 0x56, 0x78} {
		t.Errorf("Split(78563412) = %x", got)
	}
	if got := cell.Split(0x00ff8001); got != [4]uint32{0x01, 0x80, 0xff, 0} {
		t.Errorf("Split(00ff8001) = %x", got)
	}
	for _, c := range []struct {
		a    uint32
		want int
	}{{0, 0}, {1, 1}, {yes, -1}, {sign, -1 << 31}, {sign - 1, 1<<31 - 1}} {
		if got := cell.Signed(c.a); got != c.want {
			t.Errorf("Signed(%x) = %d; want %d", c.a, got, c.want)
		}
	}
}
