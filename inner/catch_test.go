package inner_test

import (
	"math"
	"slices"
	"strconv"
	"testing"

	"tinder/api"
	"tinder/inner"
)

// P11.1: catch puts 0 where there is no error, and the error's number, or what was thrown, where there is one; the stack is as high as it was.
func TestCatch(t *testing.T) {
	m := known(t, desk(), "nothing", "five 5 throw", "more 1 2 3 9 throw", "fewer 2drop 7 throw", "none 2drop 2drop -1 throw", "others 2drop 5 6 7 9 throw", "nought 4 0 throw 6", "lack 2drop 2drop drop")
	leaves(t, m, "8 'nothing catch", 8, 0)
	leaves(t, m, "'k catch", 7, 0)
	leaves(t, m, "'nought catch", 4, 6, 0)
	leaves(t, m, "8 'five catch", 8, 5)
	leaves(t, m, "8 'more catch", 8, 9)
	// The word throw, which errs, takes nothing.
	leaves(t, m, "1 2 3 4 'fewer catch", 1, 2, 7, 0, 7)
	leaves(t, m, "1 2 3 4 'none catch", minus(1), 0, 0, 0, minus(1))
	leaves(t, m, "1 2 3 4 'lack catch", 0, 0, 0, 0, uint32(api.ErrUnder))
	leaves(t, m, "1 2 3 'others catch", 1, 5, 6, 9)
	leaves(t, m, "3 0 throw", 3)
	leaves(t, m, "5 'throw catch", 5, 5)
	leaves(t, m, "0 'throw catch", 0)
	leaves(t, m, "'+ catch", uint32(api.ErrUnder))
	leaves(t, m, "1 '+ catch", 1, uint32(api.ErrUnder))
	leaves(t, m, "1 0 '/ catch", 1, 0, uint32(api.ErrZero))
	leaves(t, m, "1 'd catch", 1, 1, 0)
	leaves(t, m, "'d catch", uint32(api.ErrUnder))
	for _, n := range []uint32{1, uint32(api.ErrFuel), uint32(api.ErrRet), uint32(api.ErrThrow), 29, 1 << 31, math.MaxUint32} {
		m := known(t, desk(), "it "+strconv.Itoa(int(n))+" throw")
		leaves(t, m, "'it catch", n)
		if x, e := inner.Thrown(m, find(m, "it"), plenty); x != n || e != api.ErrThrow {
			t.Errorf("%d thrown: %d, %v", n, x, e)
		}
	}
}

// P11.1: catches in catches: the innermost one that is open catches; what errs behind it goes further out.
func TestCatchesWithinCatches(t *testing.T) {
	m := known(t, desk(), "five 5 throw", "six 'five catch 1 + throw", "seven 'six catch 1 + throw", "calm 'seven catch drop 3", "through five 1", "deeper through 1")
	leaves(t, m, "'six catch", 6)
	leaves(t, m, "'seven catch", 7)
	leaves(t, m, "'calm catch", 3, 0)
	leaves(t, m, "8 'deeper catch", 8, 5)
	leaves(t, m, "'five 'catch catch", 5, 0)
	leaves(t, m, "'five 'catch 'catch catch", 5, 0, 0)
	leaves(t, m, "'five 'execute catch", 5, 5)
	leaves(t, m, "'+ 'execute catch", 0, uint32(api.ErrUnder))
	leaves(t, m, "'five 'catch execute", 5)
	leaves(t, m, "'five catch 'six catch 'seven catch", 5, 6, 7)
	if x, e := inner.Thrown(m, find(m, "seven"), plenty); x != 7 || e != api.ErrThrow {
		t.Errorf("behind two catches: %d, %v", x, e)
	}
	if x, e := inner.Thrown(m, find(m, "calm"), plenty); x != 0 || e != api.OK {
		t.Errorf("caught: %d, %v", x, e)
	}
	// A word catch that is refused is none that catches.
	leaves(t, m, "'catch catch", uint32(api.ErrUnder))
	leaves(t, m, "9999 'catch catch", 9999, uint32(api.ErrWord))
	leaves(t, m, "9999 'execute catch", 9999, uint32(api.ErrWord))
	m = known(t, m, "wrong 9999 catch 1")
	errs(t, m, "wrong", api.ErrWord)
	leaves(t, m, "'wrong catch", uint32(api.ErrWord))
}

// P11.1: behind a catch the return stack and what is open are as they were, all else is as the word left it.
func TestWhatACatchBringsBack(t *testing.T) {
	m := known(t, desk(), "five 1 >r 2 >r 2 0 do i >r 5 throw loop", "loops 3 1 do 'five catch i loop")
	leaves(t, m, "9 >r loops r>", 5, 1, 5, 2, 9)
	m = known(t, as(atWork(desk(), bus), onDisk), "all 9 to:v 'k to:d 8 to:c 65 emit 0x31323334 0 ! 16 base! 0 8 3 new-device 2 alloc-mem 5 encode-int 11 2 property 1 throw")
	y := done(t, m, "7 'all catch")
	want := twin(m)
	want.Words = twin(y).Words
	want.Stack = cells(7, 1)
	want.Insts[onDisk].Cells[1] = 8
	want.Out = "A"
	want.Mem = append(want.Mem, 0, 0, 0, 0, 0, 0, 0, 5)
	copy(want.Mem, "1234")
	want.Base = 16
	want.Tree = append(want.Tree, api.Node{Name: "reg", Parent: bus, Props: []api.Prop{{Name: "hi", Data: []byte{0, 0, 0, 5}}}})
	want.Node = 4
	if !alike(y, want) || y.Words[wValue].N != 9 || y.Words[wDefer].N != wConst {
		t.Errorf("behind the catch: %v", y)
	}
}

// P11.1: the 0 of a catch needs room: ErrOver is the catch's own, and goes further out.
func TestCatchOnAFullStack(t *testing.T) {
	m := known(t, desk(), "near begin depth 62 < while 1 repeat 1", "fill near 1", "catches 'fill catch 8 emit", "over fill 1")
	errs(t, m, "'fill catch", api.ErrOver)
	if y := done(t, m, "'near catch"); len(y.Stack) != api.MaxStack || y.Stack[63] != 0 {
		t.Errorf("with room for one: %v", y.Stack)
	}
	y := done(t, m, "4 'catches catch")
	if !slices.Equal(y.Stack, cells(4, uint32(api.ErrOver))) || y.Out != "" {
		t.Errorf("caught further out: %v, %q", y.Stack, y.Out)
	}
	leaves(t, m, "4 'over catch", 4, uint32(api.ErrOver))
	// An error's number has the room of the word's number.
	m.Stack = topped(api.MaxStack, uint32(find(m, "drop")))
	if y, _, e := run(t, m, find(m, "catch"), 9); e != api.OK || !slices.Equal(y.Stack, append(many(62), 0)) {
		t.Errorf("drop, caught: %v, %v", y.Stack, e)
	}
	m.Stack = topped(api.MaxStack, 5, uint32(find(m, "throw")))
	if y, _, e := run(t, m, find(m, "catch"), 9); e != api.OK || !slices.Equal(y.Stack, append(many(62), 5, 5)) {
		t.Errorf("throw, caught: %v, %v", y.Stack, e)
	}
}

// P11.1: ErrFuel isn't caught; a catch takes one step, and the word that it runs its own.
func TestCatchAndFuel(t *testing.T) {
	m := known(t, desk(), "spin begin again", "outer 'spin catch drop", "five 5 throw")
	for _, fuel := range []int{3, 10, 1000, api.MaxFuel} {
		for _, name := range []string{"spin", "outer"} {
			m, xt := behind(t, m, "'"+name+" catch")
			if _, _, e := run(t, m, xt, fuel); e != api.ErrFuel {
				t.Errorf("%s with %d steps: %v", name, fuel, e)
			}
		}
	}
	for _, c := range []struct {
		text  string
		steps int
	}{
		{"'k catch", 5}, {"'five catch", 8}, {"'five catch drop", 10}, {"'k execute", 5}, {"11 2 3 $call-method", 7}, {"11 2 1 $call-method", 13}, {"1 if 2 then", 4}, {"0 if 2 then", 3},
		{"3 0 do loop", 7}, {"3 3 ?do loop", 4}, {"9 0 do leave loop", 5}, {"7 to:v", 3}, {"exit 1 2", 2}, {"1 case 1 of 5 endof endcase", 6}, {"1 case 2 of 5 endof endcase", 5}, {"", 1},
	} {
		m, xt := behind(t, m, c.text)
		if _, left, e := run(t, m, xt, c.steps); e != api.OK || left != 0 {
			t.Errorf("%s: %d left, %v", c.text, left, e)
		}
		if _, _, e := run(t, m, xt, c.steps-1); e != api.ErrFuel {
			t.Errorf("%s with a step too few: %v", c.text, e)
		}
	}
}
