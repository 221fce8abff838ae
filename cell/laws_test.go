package cell_test

import (
	"math/big"
	"testing"

	"tinder/api"
	"tinder/cell"
)

// edges are cells at which something turns over.
func edges() []uint32 {
	return []uint32{0, 1, 2, 3, 7, 31, 32, 33, 97, 255, 256, 65535, 65536, 0x12345678, sign - 2, sign - 1, sign, sign + 1, sign + 2, 0xdeadbeef, yes - 6, yes - 2, yes - 1, yes}
}

// scattered are cells from all over, the same in each run.
func scattered(n int) []uint32 {
	all := make([]uint32, n)
	x := uint32(2463534242)
	for i := range all {
		x ^= x << 13
		x ^= x >> 17
		x ^= x << 5
		all[i] = x >> (x % 31)
		if x&1 == 0 {
			all[i] = -all[i]
		}
	}
	return all
}

// cells: the edges, and some from all over.
func cells() []uint32 { return append(edges(), scattered(40)...) }

func number(a uint32) *big.Int { return new(big.Int).SetUint64(uint64(a)) }

func signed(a uint32) *big.Int {
	n := number(a)
	if n.Bit(31) == 1 {
		n.Sub(n, power(32))
	}
	return n
}

func power(bits uint) *big.Int { return new(big.Int).Lsh(big.NewInt(1), bits) }

func double(low, high uint32) *big.Int {
	return new(big.Int).Add(number(low), new(big.Int).Mul(number(high), power(32)))
}

func signedDouble(low, high uint32) *big.Int {
	n := double(low, high)
	if n.Bit(63) == 1 {
		n.Sub(n, power(64))
	}
	return n
}

// cut takes a number by 2^32.
func cut(n *big.Int) uint32 {
	return uint32(new(big.Int).Mod(n, power(32)).Uint64())
}

// flooredBig goes by the Euclidean rest, which is never below 0: another way than the package's own.
func flooredBig(n, d *big.Int) (q, r *big.Int) {
	q, r = new(big.Int).DivMod(n, d, new(big.Int))
	if r.Sign() != 0 && d.Sign() < 0 {
		q.Sub(q, big.NewInt(1))
		r.Add(r, d)
	}
	return q, r
}

// P1.1: sums, differences, products and shifts are those of whole numbers, by 2^32.
func TestBinAgainstWholeNumbers(t *testing.T) {
	for _, a := range cells() {
		for _, b := range cells() {
			bits := uint(min(b, 40))
			for op, want := range map[int]uint32{
				0x1e: cut(new(big.Int).Add(number(a), number(b))),
				0x1f: cut(new(big.Int).Sub(number(a), number(b))),
				0x20: cut(new(big.Int).Mul(number(a), number(b))),
				0x23: cut(new(big.Int).And(number(a), number(b))),
				0x24: cut(new(big.Int).Or(number(a), number(b))),
				0x25: cut(new(big.Int).Xor(number(a), number(b))),
				0x27: cut(new(big.Int).Lsh(number(a), bits)),
				0x28: cut(new(big.Int).Rsh(number(a), bits)),
				0x29: cut(new(big.Int).Rsh(signed(a), bits)),
				0x3a: truth(signed(a).Cmp(signed(b)) < 0),
				0x3b: truth(signed(a).Cmp(signed(b)) > 0),
				0x42: truth(signed(a).Cmp(signed(b)) >= 0),
				0x43: truth(signed(a).Cmp(signed(b)) <= 0),
				0x3c: truth(number(a).Cmp(number(b)) == 0),
				0x3d: truth(number(a).Cmp(number(b)) != 0),
				0x3e: truth(number(a).Cmp(number(b)) > 0),
				0x3f: truth(number(a).Cmp(number(b)) <= 0),
				0x40: truth(number(a).Cmp(number(b)) < 0),
				0x41: truth(number(a).Cmp(number(b)) >= 0),
			} {
				if got, e := cell.Bin(op, a, b); got != want || e != api.OK {
					t.Fatalf("Bin(%x, %x, %x) = %x, %v; want %x", op, a, b, got, e, want)
				}
			}
		}
	}
}

func truth(holds bool) uint32 {
	if holds {
		return yes
	}
	return no
}

// P1.2, of cells: quotient times divisor and the rest are the number, and the rest is as small and has the sign it must.
func TestDivisionOfCells(t *testing.T) {
	for _, a := range cells() {
		for _, b := range cells() {
			if b == 0 {
				continue
			}
			q, r, e := cell.Divide(0x2b, a, b)
			if e != api.OK || uint64(q)*uint64(b)+uint64(r) != uint64(a) || r >= b {
				t.Fatalf("Divide(2b, %x, %x) = %x, %x, %v", a, b, q, r, e)
			}
			q, r, e = cell.Divide(0x2a, a, b)
			if e != api.OK || q*b+r != a {
				t.Fatalf("Divide(2a, %x, %x) = %x, %x, %v", a, b, q, r, e)
			}
			flooredRest(t, signed(r), signed(b))
			if wantQ, wantR := flooredBig(signed(a), signed(b)); q != cut(wantQ) || r != cut(wantR) {
				t.Fatalf("Divide(2a, %x, %x) = %x, %x; want %v, %v", a, b, q, r, wantQ, wantR)
			}
			if x, e := cell.Bin(0x21, a, b); x != q || e != api.OK {
				t.Fatalf("Bin(21, %x, %x) = %x, %v; want %x", a, b, x, e, q)
			}
			if x, e := cell.Bin(0x22, a, b); x != r || e != api.OK {
				t.Fatalf("Bin(22, %x, %x) = %x, %v; want %x", a, b, x, e, r)
			}
		}
	}
}

func flooredRest(t *testing.T, r, d *big.Int) {
	t.Helper()
	if r.Sign() != 0 && r.Sign() != d.Sign() || r.CmpAbs(d) >= 0 {
		t.Fatalf("a floored rest %v of the divisor %v", r, d)
	}
}

// P1.2, of doubles: the same; and what is refused is what has no quotient that fits.
func TestDivisionOfDoubles(t *testing.T) {
	lowest, highest := new(big.Int).Neg(power(31)), new(big.Int).Sub(power(31), big.NewInt(1))
	last := new(big.Int).Sub(power(32), big.NewInt(1))
	for _, low := range edges() {
		for _, high := range edges() {
			for _, d := range edges() {
				if d == 0 {
					continue
				}
				q, r := new(big.Int).QuoRem(double(low, high), number(d), new(big.Int))
				wideIs(t, 0xd5, [3]uint32{low, high, d}, q, r, new(big.Int), last)
				n, by := signedDouble(low, high), signed(d)
				q, r = new(big.Int).QuoRem(n, by, new(big.Int))
				wideIs(t, 0x1d5, [3]uint32{low, high, d}, q, r, lowest, highest)
				q, r = flooredBig(n, by)
				flooredRest(t, r, by)
				wideIs(t, 0x2d5, [3]uint32{low, high, d}, q, r, lowest, highest)
			}
		}
	}
}

func wideIs(t *testing.T, op int, in [3]uint32, wantQ, wantR, from, to *big.Int) {
	t.Helper()
	q, r, e := cell.Wide(op, in[0], in[1], in[2])
	if wantQ.Cmp(from) < 0 || wantQ.Cmp(to) > 0 {
		if q != 0 || r != 0 || e != api.ErrRange {
			t.Fatalf("Wide(%x, %x) = %x, %x, %v; want ErrRange", op, in, q, r, e)
		}
		return
	}
	if q != cut(wantQ) || r != cut(wantR) || e != api.OK {
		t.Fatalf("Wide(%x, %x) = %x, %x, %v; want %v, %v", op, in, q, r, e, wantQ, wantR)
	}
}

// P1.2: a double made of a quotient, a divisor and a rest comes back to them.
func TestDoublesMadeOfQuotients(t *testing.T) {
	for _, q := range cells() {
		for _, d := range cells() {
			if d == 0 {
				continue
			}
			by := signed(d)
			rest := new(big.Int).Quo(by, big.NewInt(2))
			n := new(big.Int).Add(new(big.Int).Mul(signed(q), by), rest)
			low, high := cut(n), cut(new(big.Int).Rsh(n, 32))
			if gotQ, gotR, e := cell.Wide(0x2d5, low, high, d); gotQ != q || gotR != cut(rest) || e != api.OK {
				t.Fatalf("Wide(2d5, %x, %x, %x) = %x, %x, %v; want %x, %v", low, high, d, gotQ, gotR, e, q, rest)
			}
			gotQ, gotR, e := cell.Wide(0x1d5, low, high, d)
			back := new(big.Int).Add(new(big.Int).Mul(signed(gotQ), by), signed(gotR))
			if e != api.OK || back.Cmp(n) != 0 || gotR != 0 && signed(gotR).Sign() != n.Sign() || signed(gotR).CmpAbs(by) >= 0 {
				t.Fatalf("Wide(1d5, %x, %x, %x) = %x, %x, %v", low, high, d, gotQ, gotR, e)
			}
		}
	}
}

// P1.3: Split undoes Join of bytes, and Join undoes Split.
func TestSplitUndoesJoin(t *testing.T) {
	for _, a := range cells() {
		parts := [4]uint32{a & 255, a >> 3 & 255, a >> 11 & 255, a >> 24}
		if got := cell.Split(cell.Join(parts)); got != parts {
			t.Errorf("Split(Join(%x)) = %x", parts, got)
		}
		if got := cell.Join(cell.Split(a)); got != a {
			t.Errorf("Join(Split(%x)) = %x", a, got)
		}
	}
}

// P1.3: Wide undoes Times; and Times is the product of whole numbers.
func TestWideUndoesTimes(t *testing.T) {
	for _, a := range cells() {
		for _, b := range cells() {
			low, high := cell.Times(a, b)
			if double(low, high).Cmp(new(big.Int).Mul(number(a), number(b))) != 0 {
				t.Fatalf("Times(%x, %x) = %x, %x", a, b, low, high)
			}
			if b == 0 {
				continue
			}
			if q, r, e := cell.Wide(0xd5, low, high, b); q != a || r != 0 || e != api.OK {
				t.Fatalf("Wide of Times(%x, %x) = %x, %x, %v", a, b, q, r, e)
			}
		}
	}
}

// P1.3: sums are undone by differences, of cells and of doubles.
func TestDifferencesUndoSums(t *testing.T) {
	all := cells()
	for i, a := range all {
		for j, b := range all {
			sum, _ := cell.Bin(0x1e, a, b)
			if back, e := cell.Bin(0x1f, sum, b); back != a || e != api.OK {
				t.Fatalf("%x + %x - %x = %x, %v", a, b, b, back, e)
			}
			x, y := [2]uint32{a, all[(i+7)%len(all)]}, [2]uint32{b, all[(j+3)%len(all)]}
			wide, e := cell.Double(0xd8, x, y)
			want := new(big.Int).Mod(new(big.Int).Add(double(x[0], x[1]), double(y[0], y[1])), power(64))
			if e != api.OK || double(wide[0], wide[1]).Cmp(want) != 0 {
				t.Fatalf("Double(d8, %x, %x) = %x, %v; want %x", x, y, wide, e, want)
			}
			if back, e := cell.Double(0xd9, wide, y); back != x || e != api.OK {
				t.Fatalf("Double(d9, %x, %x) = %x, %v; want %x", wide, y, back, e, x)
			}
		}
	}
}
