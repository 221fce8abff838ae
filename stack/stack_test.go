package stack_test

import (
	"math"
	"slices"
	"testing"

	"tinder/api"
	"tinder/stack"
)

const most = math.MaxUint32

type cells = []uint32

// upTo: the cells 1 to n, so that none is like another and none is 0.
func upTo(n int) cells {
	l := cells{}
	for i := range n {
		l = append(l, uint32(i+1))
	}
	return l
}

// on: these cells on top of n others.
func on(n int, top ...uint32) cells { return append(upTo(n), top...) }

// words: each word that takes and leaves always as many.
var words = []struct {
	name        string
	op          int
	taken, left cells
}{
	{"drop", 0x46, cells{71}, nil},
	{"dup", 0x47, cells{71}, cells{71, 71}},
	{"over", 0x48, cells{71, 72}, cells{71, 72, 71}},
	{"swap", 0x49, cells{71, 72}, cells{72, 71}},
	{"rot", 0x4a, cells{71, 72, 73}, cells{72, 73, 71}},
	{"-rot", 0x4b, cells{71, 72, 73}, cells{73, 71, 72}},
	{"tuck", 0x4c, cells{71, 72}, cells{72, 71, 72}},
	{"nip", 0x4d, cells{71, 72}, cells{72}},
	{"?dup", 0x50, cells{71}, cells{71, 71}},
	{"?dup of 0", 0x50, cells{0}, cells{0}},
	{"?dup of the greatest", 0x50, cells{most}, cells{most, most}},
	{"2drop", 0x52, cells{71, 72}, nil},
	{"2dup", 0x53, cells{71, 72}, cells{71, 72, 71, 72}},
	{"2over", 0x54, cells{71, 72, 73, 74}, cells{71, 72, 73, 74, 71, 72}},
	{"2swap", 0x55, cells{71, 72, 73, 74}, cells{73, 74, 71, 72}},
	{"2rot", 0x56, cells{71, 72, 73, 74, 75, 76}, cells{73, 74, 75, 76, 71, 72}},
	{"pick 0", 0x4e, cells{71, 0}, cells{71, 71}},
	{"pick 1", 0x4e, cells{71, 72, 1}, cells{71, 72, 71}},
	{"pick 3", 0x4e, cells{71, 72, 73, 74, 3}, cells{71, 72, 73, 74, 71}},
	{"roll 0", 0x4f, cells{71, 0}, cells{71}},
	{"roll 1", 0x4f, cells{71, 72, 1}, cells{72, 71}},
	{"roll 2", 0x4f, cells{71, 72, 73, 2}, cells{72, 73, 71}},
	{"roll 3", 0x4f, cells{71, 72, 73, 74, 3}, cells{72, 73, 74, 71}},
}

// same: the list that is wanted, or with an error none.
func same(t *testing.T, name string, got cells, e api.Errno, want cells, wantE api.Errno) {
	t.Helper()
	if e != wantE || !slices.Equal(got, want) {
		t.Errorf("%s: %v, %v; want %v, %v", name, got, e, want, wantE)
	}
}

// P3.1, P3.2: each word on a stack of every height, up to a full one; what lies below is left as it was.
func TestWordsOnEveryHeight(t *testing.T) {
	for _, w := range words {
		for below := 0; below+len(w.taken) <= api.MaxStack; below++ {
			want, wantE := append(upTo(below), w.left...), api.OK
			if len(want) > api.MaxStack {
				want, wantE = nil, api.ErrOver
			}
			got, e := stack.Do(w.op, on(below, w.taken...))
			same(t, w.name, got, e, want, wantE)
		}
	}
}

// P3.1: with fewer cells than are taken.
func TestTooFewCells(t *testing.T) {
	for _, w := range words {
		for n := range len(w.taken) {
			// From the top, so that pick and roll find their number there.
			l := w.taken[len(w.taken)-n:]
			got, e := stack.Do(w.op, l)
			same(t, w.name, got, e, nil, api.ErrUnder)
		}
	}
	got, e := stack.Do(0x51, nil)
	same(t, "depth of none", got, e, cells{0}, api.OK)
}

// P3.1: depth tells how many there were.
func TestDepth(t *testing.T) {
	for n := range api.MaxStack {
		got, e := stack.Do(0x51, upTo(n))
		same(t, "depth", got, e, on(n, uint32(n)), api.OK)
	}
	got, e := stack.Do(0x51, upTo(api.MaxStack))
	same(t, "depth of a full stack", got, e, nil, api.ErrOver)
}

// P3.1: pick and roll of every number, from stacks of every height.
func TestPickAndRoll(t *testing.T) {
	for have := range api.MaxStack {
		base := upTo(have)
		for n := range have {
			at := have - 1 - n
			l := append(upTo(have), uint32(n))
			got, e := stack.Do(0x4e, l)
			same(t, "pick", got, e, append(upTo(have), base[at]), api.OK)
			got, e = stack.Do(0x4f, l)
			same(t, "roll", got, e, append(slices.Delete(upTo(have), at, at+1), base[at]), api.OK)
		}
		for _, n := range []uint32{uint32(have), uint32(have) + 1, 1<<31 - 1, 1 << 31, most - 1, most} {
			for _, op := range []int{0x4e, 0x4f} {
				got, e := stack.Do(op, append(upTo(have), n))
				same(t, "pick or roll beyond the lowest", got, e, nil, api.ErrUnder)
			}
		}
	}
}

// P3.1: numbers that are no words of this layer.
func TestNoWord(t *testing.T) {
	for op := -0x300; op <= 0x1300; op++ {
		if op >= 0x46 && op <= 0x56 {
			continue
		}
		for _, l := range []cells{nil, upTo(10), upTo(api.MaxStack)} {
			got, e := stack.Do(op, l)
			same(t, "no word", got, e, nil, api.ErrNone)
		}
	}
	for _, op := range []int{math.MinInt, math.MinInt32, math.MaxInt32, math.MaxInt, 0x146, 1<<32 + 0x47} {
		got, e := stack.Do(op, upTo(10))
		same(t, "no word", got, e, nil, api.ErrNone)
	}
}

// P3.1: a list above MaxStack is refused ahead of all else, also where the word would shorten it.
func TestListTooLong(t *testing.T) {
	for op := 0x40; op <= 0x5c; op++ {
		for _, n := range []int{api.MaxStack + 1, api.MaxStack + 2, 1000} {
			got, e := stack.Do(op, upTo(n))
			same(t, "too long", got, e, nil, api.ErrArg)
		}
	}
	got, e := stack.Do(-1, on(api.MaxStack, 0))
	same(t, "too long and no word", got, e, nil, api.ErrArg)
}

// P3.1: cells pushed, none and many, up to a full stack and beyond.
func TestPush(t *testing.T) {
	for have := range api.MaxStack + 3 {
		for more := range api.MaxStack + 3 {
			top := cells{}
			for i := range more {
				top = append(top, uint32(100+i))
			}
			want, wantE := on(have, top...), api.OK
			if have+more > api.MaxStack {
				want, wantE = nil, api.ErrOver
			}
			got, e := stack.Push(upTo(have), top...)
			same(t, "Push", got, e, want, wantE)
		}
	}
	got, e := stack.Push(nil)
	same(t, "Push of none on none", got, e, nil, api.OK)
	got, e = stack.Push(nil, 9)
	same(t, "Push of one on none", got, e, cells{9}, api.OK)
}

// P3.1: cells popped, from lists that are longer than a stack too.
func TestPop(t *testing.T) {
	for _, have := range []int{0, 1, 2, 7, api.MaxStack, api.MaxStack + 1, 300} {
		l := upTo(have)
		for n := range have + 1 {
			rest, top, e := stack.Pop(l, n)
			same(t, "Pop, what is left", rest, e, l[:have-n], api.OK)
			same(t, "Pop, what is taken", top, e, l[have-n:], api.OK)
		}
		for _, n := range []int{have + 1, have + 2, math.MaxInt32, math.MaxInt} {
			rest, top, e := stack.Pop(l, n)
			same(t, "Pop of too many, what is left", rest, e, nil, api.ErrUnder)
			same(t, "Pop of too many, what is taken", top, e, nil, api.ErrUnder)
		}
		for _, n := range []int{-1, -2, -have, math.MinInt32, math.MinInt} {
			if n == 0 {
				continue
			}
			rest, top, e := stack.Pop(l, n)
			same(t, "Pop below 0, what is left", rest, e, nil, api.ErrArg)
			same(t, "Pop below 0, what is taken", top, e, nil, api.ErrArg)
		}
	}
}

// roomy: the list with spare room behind it that is marked, and all of it.
func roomy(l cells) (cells, cells) {
	all := append(slices.Clone(l), 901, 902, 903, 904, 905, 906, 907, 908)
	return all[:len(l)], all
}

// scribble: writes all over an answer, its spare room too.
func scribble(l cells) {
	l = l[:cap(l)]
	for i := range l {
		l[i] = 5555
	}
}

// P3.1: what is handed in is left as it was, its spare room too, and shares nothing with what is answered.
func TestNewMemory(t *testing.T) {
	for _, w := range words {
		l, all := roomy(on(5, w.taken...))
		was := slices.Clone(all)
		got, _ := stack.Do(w.op, l)
		scribble(got)
		if !slices.Equal(all, was) {
			t.Errorf("%s: what was handed in is now %v", w.name, all)
		}
	}
	for _, op := range []int{0x51, 0x46, 0x52} {
		l, all := roomy(upTo(5))
		was := slices.Clone(all)
		got, _ := stack.Do(op, l)
		scribble(got)
		if !slices.Equal(all, was) {
			t.Errorf("%x: what was handed in is now %v", op, all)
		}
	}
}

// P3.1: the same for Push, with none pushed and onto none too.
func TestPushNewMemory(t *testing.T) {
	for have := range 4 {
		for more := range 4 {
			l, all := roomy(upTo(have))
			top, allTop := roomy(upTo(more))
			was, wasTop := slices.Clone(all), slices.Clone(allTop)
			got, _ := stack.Push(l, top...)
			scribble(got)
			if !slices.Equal(all, was) || !slices.Equal(allTop, wasTop) {
				t.Errorf("Push of %d on %d: what was handed in is now %v and %v", more, have, all, allTop)
			}
		}
	}
}

// P3.1: the same for Pop, whose two lists share nothing with each other either.
func TestPopNewMemory(t *testing.T) {
	for have := range 6 {
		for n := range have + 1 {
			l, all := roomy(upTo(have))
			was := slices.Clone(all)
			rest, top, _ := stack.Pop(l, n)
			scribble(rest)
			if !slices.Equal(top, was[have-n:have]) {
				t.Errorf("Pop(%d of %d): the taken cells hang on the rest: %v", n, have, top)
			}
			scribble(top)
			if !slices.Equal(all, was) {
				t.Errorf("Pop(%d of %d): what was handed in is now %v", n, have, all)
			}
			rest, top, _ = stack.Pop(l, n)
			scribble(top)
			if !slices.Equal(rest, was[:have-n]) {
				t.Errorf("Pop(%d of %d): the rest hangs on the taken cells: %v", n, have, rest)
			}
		}
	}
}
