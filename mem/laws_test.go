package mem_test

import (
	"bytes"
	"slices"
	"testing"

	"tinder/api"
	"tinder/mem"
)

// values: numbers with each of their bytes unlike the others, and the edges.
func values() []uint32 {
	return []uint32{0, 1, 0x7f, 0x80, 0xff, 0x100, 0x1234, 0x8000, 0xffff, 0x10000, 0x12345678, 0x7fffffff, 0x80000000, 0xfedcba98, most}
}

// others: are all places but these n from addr on as they were?
func others(was, is []byte, addr, n uint32) bool {
	if len(is) != len(was) {
		return false
	}
	for i := range was {
		if at := uint32(i); (at < addr || at-addr >= n) && is[i] != was[i] {
			return false
		}
	}
	return true
}

// P4.2: what was stored is fetched again, of each size, and no other place is changed.
func TestStoredIsFetched(t *testing.T) {
	for _, length := range lengths() {
		for _, size := range []uint32{1, 2, 4} {
			for _, addr := range places(length) {
				if refusal(length, addr, size) == api.OK {
					storedIsFetched(t, upTo(length), addr, size)
				}
			}
		}
	}
}

// storedIsFetched: at one place, with each value.
func storedIsFetched(t *testing.T, m []byte, addr, size uint32) {
	t.Helper()
	unused := 32 - 8*size
	for _, v := range values() {
		x, e := mem.Store(m, addr, size, v)
		got, e2 := mem.Fetch(x, addr, size)
		if kept := v << unused >> unused; e != api.OK || e2 != api.OK || got != kept {
			t.Errorf("of %d: Store(%d, %d, %x): fetched %x, %v, %v", len(m), addr, size, v, got, e, e2)
		}
		if !others(m, x, addr, size) {
			t.Errorf("of %d: Store(%d, %d, %x) changed another place", len(m), addr, size, v)
		}
	}
}

// P4.2: a number that is fetched and stored again leaves all as it was.
func TestFetchedIsStored(t *testing.T) {
	m := upTo(40)
	for _, size := range []uint32{1, 2, 4} {
		for addr := uint32(0); addr < 40; addr += size {
			v, _ := mem.Fetch(m, addr, size)
			x, e := mem.Store(m, addr, size, v)
			same(t, x, e, m, api.OK, "Store", addr, size, v)
		}
	}
}

// P4.2: a number of four bytes is its two halves, and its four bytes, the highest first.
func TestNumbersInNumbers(t *testing.T) {
	for _, v := range values() {
		m, e := mem.Store(make([]byte, 12), 4, 4, v)
		if e != api.OK {
			t.Fatal(e)
		}
		high, _ := mem.Fetch(m, 4, 2)
		low, _ := mem.Fetch(m, 6, 2)
		if high != v>>16 || low != v&0xffff {
			t.Errorf("%x: halves %x, %x", v, high, low)
		}
		for i := range uint32(4) {
			if b, _ := mem.Fetch(m, 4+i, 1); b != v>>(24-8*i)&0xff {
				t.Errorf("%x: byte %d is %x", v, i, b)
			}
		}
	}
}

// P4.2: what was put is the text again, and no other place is changed.
func TestPutIsText(t *testing.T) {
	for _, length := range []int{0, 1, 7, 300, api.MaxMem, api.MaxMem + 300} {
		m := upTo(length)
		for _, s := range []string{"", "\x00", "\xff\x00\x80", "text of some bytes"} {
			for addr := 0; addr+len(s) <= length; addr += 1 + length/50 {
				x, e := mem.Put(m, uint32(addr), s)
				got, e2 := mem.Text(x, uint32(addr), uint32(len(s)))
				if e != api.OK || e2 != api.OK || got != s || !others(m, x, uint32(addr), uint32(len(s))) {
					t.Errorf("of %d: Put(%d, %q): %q, %v, %v", length, addr, s, got, e, e2)
				}
			}
		}
	}
}

// P4.2: what was moved is the text that was there, and no other place is changed; so is what was filled.
func TestMovedIsText(t *testing.T) {
	const length = 24
	m := upTo(length)
	for n := range uint32(length + 1) {
		for from := range length - n + 1 {
			was, _ := mem.Text(m, from, n)
			for to := range length - n + 1 {
				x, e := mem.Move(m, from, to, n)
				if got, _ := mem.Text(x, to, n); e != api.OK || got != was || !others(m, x, to, n) {
					t.Errorf("Move(%d, %d, %d): %v, %v", from, to, n, x, e)
				}
			}
			x, e := mem.Fill(m, from, n, 0x1ee)
			got, _ := mem.Text(x, from, n)
			if e != api.OK || got != string(bytes.Repeat([]byte{0xee}, int(n))) || !others(m, x, from, n) {
				t.Errorf("Fill(%d, %d): %v, %v", from, n, x, e)
			}
		}
	}
}

// P4.2: stretches that were moved apart are alike.
func TestMovedCompares(t *testing.T) {
	m := upTo(32)
	for n := range uint32(17) {
		x, _ := mem.Move(m, 0, 16, n)
		if v, e := mem.Compare(x, 0, 16, n); v != 0 || e != api.OK {
			t.Errorf("of %d moved: %x, %v", n, v, e)
		}
	}
}

// P4.1: turned round, a comparison tells the opposite.
func TestCompareTurned(t *testing.T) {
	m := []byte("abaabbaaab\x00\xffab\xff\x00")
	for n := range uint32(len(m) + 1) {
		for a := range uint32(len(m)) - n + 1 {
			for b := range uint32(len(m)) - n + 1 {
				one, _ := mem.Compare(m, a, b, n)
				two, _ := mem.Compare(m, b, a, n)
				s, _ := mem.Text(m, a, n)
				u, _ := mem.Text(m, b, n)
				if one != -two || (one == 0) != (s == u) || (one == 1) != (s > u) {
					t.Errorf("Compare(%d, %d, %d): %x, turned %x", a, b, n, one, two)
				}
			}
		}
	}
}

// roomy: the memory with spare room behind it that is marked, and all of it.
func roomy(length int) (m, all []byte) {
	all = append(upTo(length), bytes.Repeat([]byte{0xd7}, 64)...)
	return all[:length], all
}

// scribble: writes all over an answer, its spare room too.
func scribble(m []byte) {
	m = m[:cap(m)]
	for i := range m {
		m[i] ^= 0xff
	}
}

// answers: each call that answers a memory, where it is taken and where it is refused, and where it changes nothing.
func answers() map[string]func(m []byte) []byte {
	return map[string]func(m []byte) []byte{
		"Store":         func(m []byte) []byte { x, _ := mem.Store(m, 4, 4, most); return x },
		"Store refused": func(m []byte) []byte { x, _ := mem.Store(m, uint32(len(m)), 1, 0); return x },
		"Put":           func(m []byte) []byte { x, _ := mem.Put(m, 3, "abc"); return x },
		"Put of none":   func(m []byte) []byte { x, _ := mem.Put(m, uint32(len(m)), ""); return x },
		"Put refused":   func(m []byte) []byte { x, _ := mem.Put(m, uint32(len(m))-1, "ab"); return x },
		"Move up":       func(m []byte) []byte { x, _ := mem.Move(m, 0, 1, 4); return x },
		"Move down":     func(m []byte) []byte { x, _ := mem.Move(m, 1, 0, 4); return x },
		"Move of none":  func(m []byte) []byte { x, _ := mem.Move(m, 0, 0, 0); return x },
		"Move refused":  func(m []byte) []byte { x, _ := mem.Move(m, 0, uint32(len(m)), 2); return x },
		"Fill":          func(m []byte) []byte { x, _ := mem.Fill(m, 0, uint32(len(m)), 0); return x },
		"Fill of none":  func(m []byte) []byte { x, _ := mem.Fill(m, 0, 0, 0); return x },
		"Fill refused":  func(m []byte) []byte { x, _ := mem.Fill(m, 0, uint32(len(m))+1, 0); return x },
		"Allot":         func(m []byte) []byte { x, _, _ := mem.Allot(m, 9); return x },
		"Allot of none": func(m []byte) []byte { x, _, _ := mem.Allot(m, 0); return x },
		"Allot refused": func(m []byte) []byte { x, _, _ := mem.Allot(m, 4097); return x },
	}
}

// P4.1, P1: what is handed in is left as it was, its spare room too, and shares nothing with what is answered, nor do two answers.
func TestNewMemory(t *testing.T) {
	for name, call := range answers() {
		for _, length := range []int{8, 9, 12, 31, api.MaxMem - 8, api.MaxMem, api.MaxMem + 5} {
			m, all := roomy(length)
			was := slices.Clone(all)
			one := call(m)
			if !bytes.Equal(all, was) {
				t.Errorf("%s of %d: what was handed in is changed", name, length)
			}
			two := call(m)
			kept := slices.Clone(two)
			scribble(one)
			if !bytes.Equal(all, was) {
				t.Errorf("%s of %d: the answer shares what was handed in", name, length)
			}
			if !bytes.Equal(two, kept) {
				t.Errorf("%s of %d: two answers share", name, length)
			}
		}
	}
}

// P4.1, P1: calls that only look leave all as it was, and a text that is answered stays when the memory changes.
func TestLookingChangesNothing(t *testing.T) {
	m, all := roomy(20)
	was := slices.Clone(all)
	mem.Fetch(m, 4, 4)
	mem.Compare(m, 0, 5, 15)
	text, _ := mem.Text(m, 3, 9)
	if !bytes.Equal(all, was) {
		t.Errorf("what was handed in is now %v", all)
	}
	scribble(m)
	if text != string(was[3:12]) {
		t.Errorf("the text hangs on the memory: %q", text)
	}
}

// P4.1: noughts are allotted though the spare room of what was handed in holds something else.
func TestAllotIsNoughts(t *testing.T) {
	for length := range 9 {
		m, _ := roomy(length)
		allots(t, m, (length+3)/4*4, 13)
	}
}

// P4.2: memory that was allotted holds what is put there, and what was there ahead of it stays.
func TestAllottedHolds(t *testing.T) {
	m := []byte(nil)
	var at []uint32
	texts := []string{"a", "", "bcdef", "ghij", "k"}
	for _, s := range texts {
		x, addr, e := mem.Allot(m, uint32(len(s)))
		if e != api.OK || addr%4 != 0 {
			t.Fatalf("Allot(%d): at %d, %v", len(s), addr, e)
		}
		if m, e = mem.Put(x, addr, s); e != api.OK {
			t.Fatalf("Put(%d, %q): %v", addr, s, e)
		}
		at = append(at, addr)
	}
	for i, s := range texts {
		if got, e := mem.Text(m, at[i], uint32(len(s))); got != s || e != api.OK {
			t.Errorf("at %d: %q, %v; want %q", at[i], got, e, s)
		}
	}
}
