package nvram_test

import (
	"bytes"
	"math/rand"
	"slices"
	"testing"

	"tinder/api"
	"tinder/nvram"
)

// anyBank: one that is right, near to it, or of any bytes; generations lie close together, so that they often follow one another.
func anyBank(r *rand.Rand) []byte {
	if r.Intn(8) == 0 {
		return anyBytes(r, 256)
	}
	n := r.Intn(12)
	if r.Intn(4) == 0 {
		n = r.Intn(249)
	}
	b := append(image(byte(r.Intn(4)-2), anyBytes(r, n)), anyBytes(r, 248-n)...)
	for range r.Intn(6) - 3 {
		b[r.Intn(8+n)] = byte(r.Intn(256))
	}
	return b
}

func anyNVRAM(r *rand.Rand) []byte { return both(anyBank(r), anyBank(r)) }

// anyRow: bytes for places within so many and beyond.
func anyRow(r *rand.Rand, size int) []api.Byte {
	l := make([]api.Byte, r.Intn(20))
	for i := range l {
		l[i] = api.Byte{At: r.Intn(size+6) - 3, V: byte(r.Intn(256))}
	}
	return l
}

// P18.1: all calls as the model has them, at random banks, data and rows.
func TestAgainstModel(t *testing.T) {
	r := chance()
	counts := [3]int{}
	for range 6000 {
		nv, data := anyNVRAM(r), anyBytes(r, r.Intn(270))
		if want, got := modelSum(nv[1], data), nvram.Sum(nv[1], data); got != want {
			t.Fatalf("Sum of %d bytes: %08x; want %08x", len(data), got, want)
		}
		want, k, is := modelRecover(nv)
		if got, at, ok := nvram.Recover(nv); ok != is || at != k || !bytes.Equal(got, want) {
			t.Fatalf("Recover(%x): %x, %d, %v; want %x, %d, %v", nv, got, at, ok, want, k, is)
		}
		if is {
			k++
		}
		counts[k]++
		l, e := modelPlan(nv, data)
		if got, ge := nvram.Plan(nv, data); ge != e || !slices.Equal(got, l) {
			t.Fatalf("Plan(%x, %x): %v, %v; want %v, %v", nv, data, got, ge, l, e)
		}
	}
	if slices.Min(counts[:]) < 500 {
		t.Errorf("too few of a kind: %v", counts)
	}
}

// P18.1: rows of any kind, written to memories of any length, as the model has them.
func TestApplyAgainstModel(t *testing.T) {
	r := chance()
	for range 20000 {
		nv := anyBytes(r, r.Intn(12))
		l, n := anyRow(r, len(nv)), r.Intn(26)-3
		if got, want := nvram.Apply(nv, l, n), modelApply(nv, l, n); !bytes.Equal(got, want) {
			t.Fatalf("Apply of %d of %v to %v: %v; want %v", n, l, nv, got, want)
		}
	}
}

// cut: that data are written in such a way that, wherever the power goes, there is what was there ahead, or all of the new; what is there when they are written.
func cut(t *testing.T, nv, data []byte) []byte {
	t.Helper()
	was, k, ok := nvram.Recover(nv)
	l := planned(t, nv, data)
	for n := -1; n < len(l); n++ {
		now := nvram.Apply(nv, l, n)
		if ok {
			found(t, now, was, k)
		} else {
			missing(t, now)
		}
	}
	to := 0
	if ok {
		to = 1 - k
	}
	nv = nvram.Apply(nv, l, len(l))
	found(t, nv, data, to)
	return nv
}

// P18.2: old or new, for data of each length, where none counts and where each bank does.
func TestCutAtEachLength(t *testing.T) {
	r := chance()
	for n := range 249 {
		nv := cut(t, anyBytes(r, 512), anyBytes(r, n))
		nv = cut(t, nv, anyBytes(r, 248-n))
		cut(t, nv, anyBytes(r, n))
	}
}

// P18.2: old or new, whatever two right banks have for generations.
func TestCutAtEachGeneration(t *testing.T) {
	for first := range 256 {
		for second := range 256 {
			cut(t, both(image(byte(first), []byte{1}), image(byte(second), []byte{2})), []byte{3})
		}
	}
}

// P18.2: old or new, where one bank counts and the other one holds what would be right but for a byte, which the row may just bring.
func TestCutBesideNearlyRight(t *testing.T) {
	for _, k := range []int{0, 1} {
		for generation := range 256 {
			for at := range 10 {
				right, near := image(byte(generation), []byte{1}), turned(image(byte(generation+1), []byte{3, 4}), at, 0x40)
				nv := both(right, near)
				if k == 1 {
					nv = both(near, right)
				}
				found(t, nv, []byte{1}, k)
				cut(t, nv, []byte{3, 4})
				cut(t, nv, nil)
			}
		}
	}
}

// P18.2: old or new, whatever the bytes were.
func TestCutOfAnyBytes(t *testing.T) {
	r := chance()
	for range 4000 {
		cut(t, anyNVRAM(r), anyBytes(r, r.Intn(20)))
	}
}

// P18.2: old or new, where banks stand that lack nothing but their marks, so that a mark which came too early would make them right.
func TestCutOverUnmarked(t *testing.T) {
	for _, generation := range []byte{0, 1, 2, 255} {
		b := image(generation, []byte{7})
		unmarked := turned(b, 0, 0xa5)
		for _, data := range [][]byte{{7}, nil, {8, 9}} {
			cut(t, both(unmarked, nil), data)
			cut(t, both(unmarked, unmarked), data)
			cut(t, both(b, unmarked), data)
			cut(t, both(unmarked, b), data)
			cut(t, both(b, b), data)
		}
	}
}

// P18.2: the power goes again and again, and data are written again on what it left.
func TestCutAgainAndAgain(t *testing.T) {
	r := chance()
	nv, now, ok := anyBytes(r, 512), []byte(nil), false
	rounds, whole := 0, 0
	for range 5000 {
		data := anyBytes(r, r.Intn(15))
		l := planned(t, nv, data)
		n := r.Intn(2*len(l)) - 1
		nv = nvram.Apply(nv, l, n)
		if n >= len(l) {
			now, ok = data, true
			whole++
		}
		got, k, is := nvram.Recover(nv)
		if is != ok || !bytes.Equal(got, now) {
			t.Fatalf("%d of %d bytes: %x, %v; want %x, %v", n, len(l), got, is, now, ok)
		}
		if ok && nv[256*k+1] == 0 && n >= len(l) {
			rounds++
		}
	}
	if whole < 1000 || rounds < 5 {
		t.Errorf("too few: %d whole, %d times round", whole, rounds)
	}
}

// P18.2: the bank that counts isn't touched, nor what lies behind the new data.
func TestOnlyTheOtherBank(t *testing.T) {
	r := chance()
	for range 2000 {
		nv, n := anyNVRAM(r), r.Intn(249)
		l := planned(t, nv, anyBytes(r, n))
		now := nvram.Apply(nv, l, len(l))
		start := l[0].At
		if _, k, ok := nvram.Recover(nv); ok && start == 256*k || start%256 != 0 {
			t.Fatalf("Plan begins at %d", start)
		}
		end := start + 8 + n
		if !bytes.Equal(now[:start], nv[:start]) || !bytes.Equal(now[end:], nv[end:]) {
			t.Fatalf("%d bytes at %d: others are changed", n, start)
		}
	}
}

// P18.3: where no bank is right, nothing is found.
func TestNothingRight(t *testing.T) {
	for n := range 256 {
		missing(t, bytes.Repeat([]byte{byte(n)}, 512))
	}
	r := chance()
	for range 3000 {
		b := anyBytes(r, 512)
		missing(t, b)
		b[0], b[256] = 0xa5, 0xa5
		missing(t, b)
		b[2], b[258] = 0, 0
		missing(t, b)
		b[3], b[259] = byte(r.Intn(249)), byte(r.Intn(249))
		missing(t, b)
	}
}

// P18.3: any byte of a right bank, turned into any other one, makes it wrong, but for those behind its data. (No sums meet here.)
func TestOneByte(t *testing.T) {
	r := chance()
	for _, n := range []int{0, 1, 2, 7, 60, 247, 248} {
		data := anyBytes(r, n)
		for k := range 2 {
			rest := anyBytes(r, 248-n)
			banks := [2][]byte{anyBytes(r, 256), anyBytes(r, 256)}
			banks[k] = append(image(byte(n), data), rest...)
			nv := both(banks[0], banks[1])
			for at := range 256 {
				for by := 1; by < 256; by++ {
					if other := turned(nv, 256*k+at, byte(by)); at < 8+n {
						missing(t, other)
					} else {
						found(t, other, data, k)
					}
				}
			}
		}
	}
}

// P18.3: so it is beside another right bank, which counts then.
func TestOneByteOfTwo(t *testing.T) {
	one, two := []byte("one"), []byte("second")
	for _, generations := range [][2]byte{{4, 5}, {5, 4}, {255, 0}, {0, 255}, {9, 9}} {
		nv := both(image(generations[0], one), image(generations[1], two))
		was, k, _ := nvram.Recover(nv)
		for by := 1; by < 256; by++ {
			for at := range 256 {
				if other := turned(nv, at, byte(by)); at < 8+len(one) {
					found(t, other, two, 1)
				} else {
					found(t, other, was, k)
				}
				if other := turned(nv, 256+at, byte(by)); at < 8+len(two) {
					found(t, other, one, 0)
				} else {
					found(t, other, was, k)
				}
			}
		}
	}
}

// P18.1, P1: what is found, planned and written is new memory; what is handed in is left as it was, the room behind it too.
func TestNothingIsShared(t *testing.T) {
	r := chance()
	for range 500 {
		nv, allNV := spared(anyNVRAM(r), 0x5a)
		data, allData := spared(anyBytes(r, r.Intn(249)), 0x5a)
		l, allL := spared(planned(t, nv, data), api.Byte{At: 1, V: 0x5a})
		wasNV, wasData, wasL := slices.Clone(allNV), slices.Clone(allData), slices.Clone(allL)
		answer := func() ([]byte, []byte, []byte, []api.Byte) {
			nvram.Sum(1, data)
			b, _, _ := nvram.Recover(nv)
			plan, _ := nvram.Plan(nv, data)
			return b, nvram.Apply(nv, l, 0), nvram.Apply(nv, l, len(l)), plan
		}
		a1, b1, c1, d1 := answer()
		a2, b2, c2, d2 := answer()
		kept := [][]byte{slices.Clone(a2), slices.Clone(b2), slices.Clone(c2)}
		plan := slices.Clone(d2)
		for _, b := range [][]byte{a1, b1, c1} {
			turnAll(b)
		}
		clear(d1[:cap(d1)])
		if !bytes.Equal(allNV, wasNV) || !bytes.Equal(allData, wasData) || !slices.Equal(allL, wasL) {
			t.Fatal("what is handed in is changed or shared")
		}
		turnAll(allNV)
		turnAll(allData)
		clear(allL)
		if !bytes.Equal(a2, kept[0]) || !bytes.Equal(b2, kept[1]) || !bytes.Equal(c2, kept[2]) || !slices.Equal(d2, plan) {
			t.Fatal("what is answered is shared with an argument or another answer")
		}
	}
}

// turnAll: changes each byte of a row and of the room behind it.
func turnAll(b []byte) {
	b = b[:cap(b)]
	for i := range b {
		b[i] ^= 0xff
	}
}

// P1: what was refused or is too short is not touched either.
func TestRefusedIsLeft(t *testing.T) {
	for _, n := range []int{0, 1, 256, 511, 513} {
		nv, all := spared(bytes.Repeat([]byte{0xa5}, n), 0x5a)
		was := slices.Clone(all)
		nvram.Recover(nv)
		nvram.Plan(nv, nv)
		nvram.Apply(nv, row(n, 1, n+1, 1, n+31, 1, -1, 1), 4)
		if !bytes.Equal(all, was) {
			t.Errorf("of %d bytes some are changed", n)
		}
	}
}

// P1: a call hangs on its arguments alone: nothing of one NVRAM is to be had of the next one.
func TestNothingIsKept(t *testing.T) {
	for range 3 {
		found(t, both(image(1, []byte{7}), image(2, []byte{8, 9})), []byte{8, 9}, 1)
		missing(t, make([]byte, 512))
		unplanned(t, nil, nil, api.ErrArg)
		if l := planned(t, make([]byte, 512), nil); l[1].V != 1 || l[0].At != 0 {
			t.Errorf("Plan for noughts: %v", l)
		}
		found(t, both(image(3, nil), nil), nil, 0)
	}
}
