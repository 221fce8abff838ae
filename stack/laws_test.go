package stack_test

import (
	"slices"
	"testing"

	"tinder/api"
	"tinder/stack"
)

// does: these words one after another.
func does(t *testing.T, l cells, ops ...int) cells {
	t.Helper()
	for _, op := range ops {
		var e api.Errno
		if l, e = stack.Do(op, l); e != api.OK {
			t.Fatalf("%x of %v in %x: %v", op, l, ops, e)
		}
	}
	return l
}

// mixed: n cells from all over, some of them 0 or alike, the same in each run.
func mixed(n int) cells {
	l := cells{}
	x := uint32(2463534242)
	for range n {
		x ^= x << 13
		x ^= x >> 17
		x ^= x << 5
		l = append(l, x>>(x%32))
	}
	return l
}

// P3.2: turns that come back.
func TestTurnsComeBack(t *testing.T) {
	for _, c := range []struct {
		name  string
		takes int
		ops   []int
	}{
		{"swap twice", 2, []int{0x49, 0x49}},
		{"2swap twice", 4, []int{0x55, 0x55}},
		{"rot thrice", 3, []int{0x4a, 0x4a, 0x4a}},
		{"2rot thrice", 6, []int{0x56, 0x56, 0x56}},
		{"-rot thrice", 3, []int{0x4b, 0x4b, 0x4b}},
		{"rot, -rot", 3, []int{0x4a, 0x4b}},
		{"-rot, rot", 3, []int{0x4b, 0x4a}},
	} {
		for n := c.takes; n <= api.MaxStack; n++ {
			for _, l := range []cells{upTo(n), mixed(n)} {
				if got := does(t, l, c.ops...); !slices.Equal(got, l) {
					t.Errorf("%s of %v: %v", c.name, l, got)
				}
			}
		}
	}
}

// P3.2: a turn by itself is one: it does not leave unlike cells as they were.
func TestTurnsTurn(t *testing.T) {
	for _, ops := range [][]int{{0x49}, {0x55}, {0x4a}, {0x4a, 0x4a}, {0x4b}, {0x56}, {0x56, 0x56}} {
		l := upTo(8)
		if got := does(t, l, ops...); slices.Equal(got, l) {
			t.Errorf("%x of %v leaves all as it was", ops, l)
		}
	}
}

// P3.1, P3.2: words that come to the same as others.
func TestWordsByOthers(t *testing.T) {
	for _, c := range []struct {
		name     string
		one, two []int
	}{
		{"nip is swap drop", []int{0x4d}, []int{0x49, 0x46}},
		{"tuck is swap over", []int{0x4c}, []int{0x49, 0x48}},
		{"2drop is drop drop", []int{0x52}, []int{0x46, 0x46}},
		{"2dup is over over", []int{0x53}, []int{0x48, 0x48}},
		{"-rot is rot rot", []int{0x4b}, []int{0x4a, 0x4a}},
		{"depth drop is nothing", []int{0x51, 0x46}, nil},
		{"2over 2drop is nothing", []int{0x54, 0x52}, nil},
	} {
		for n := 6; n <= api.MaxStack-2; n++ {
			l := mixed(n)
			if one, two := does(t, l, c.one...), does(t, l, c.two...); !slices.Equal(one, two) {
				t.Errorf("%s, of %v: %v and %v", c.name, l, one, two)
			}
		}
	}
}

// P3.2: whatever word is done, the cells below those that it takes stay.
func TestBelowStays(t *testing.T) {
	for _, w := range words {
		for below := range api.MaxStack - 7 {
			under := mixed(below)
			got, e := stack.Do(w.op, append(slices.Clone(under), w.taken...))
			if e != api.OK || len(got) < below || !slices.Equal(got[:below], under) {
				t.Errorf("%s on %v: %v, %v", w.name, under, got, e)
			}
		}
	}
}

// P3.1: what is pushed is popped again.
func TestPushedIsPopped(t *testing.T) {
	for have := range api.MaxStack {
		for more := range api.MaxStack - have + 1 {
			l, top := mixed(have), upTo(more)
			pushed, _ := stack.Push(l, top...)
			rest, off, e := stack.Pop(pushed, more)
			if e != api.OK || !slices.Equal(rest, l) || !slices.Equal(off, top) {
				t.Errorf("%d on %d: %v, %v, %v", more, have, rest, off, e)
			}
		}
	}
}
