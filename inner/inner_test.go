package inner_test

import (
	"math"
	"slices"
	"strconv"
	"strings"
	"testing"

	"tinder/api"
	"tinder/dict"
	"tinder/inner"
)

// turned: first words that only turn cells into others, on the desk: the word, what it takes, what it leaves.
const turned = `
+ | 7 -9 | -2
- | 7 9 | -2
* | 7 -3 | -21
/ | -7 2 | -4
mod | -7 2 | 1
and | 12 10 | 8
or | 12 10 | 14
xor | 12 10 | 6
invert | 5 | -6
lshift | 3 4 | 48
rshift | -16 28 | 15
>>a | -16 2 | -4
/mod | -7 2 | 1 -4
u/mod | 17 5 | 2 3
u/mod | -1 16 | 15 268435455
negate | 5 | -5
abs | -5 | 5
min | 3 -4 | -4
max | 3 -4 | 3
0= | 0 | -1
0<> | 5 | -1
0< | -5 | -1
0<= | 0 | -1
0> | 5 | -1
0>= | -1 | 0
< | -1 1 | -1
> | -1 1 | 0
= | 4 4 | -1
<> | 4 4 | 0
u> | -1 1 | -1
u<= | -1 1 | 0
u< | 1 -1 | -1
u>= | 1 -1 | 0
>= | 1 -1 | -1
<= | 1 -1 | 0
drop | 1 2 | 1
dup | 1 2 | 1 2 2
over | 1 2 | 1 2 1
swap | 1 2 | 2 1
rot | 1 2 3 | 2 3 1
-rot | 1 2 3 | 3 1 2
tuck | 1 2 | 2 1 2
nip | 1 2 | 2
pick | 7 8 9 2 | 7 8 9 7
roll | 7 8 9 2 | 8 9 7
?dup | 0 | 0
?dup | 5 | 5 5
depth | 5 5 | 5 5 2
2drop | 1 2 3 | 1
2dup | 1 2 | 1 2 1 2
2over | 1 2 3 4 | 1 2 3 4 1 2
2swap | 1 2 3 4 | 3 4 1 2
2rot | 1 2 3 4 5 6 | 3 4 5 6 1 2
2/ | -8 | -4
u2/ | -8 | 2147483644
2* | 5 | 10
lbsplit | 0x12345678 | 0x78 0x56 0x34 0x12
bljoin | 0x178 0x56 0x34 0x12 | 0x12345678
wbflip | 0x12345678 | 0x7856
upc | 97 | 65
lcc | 65 | 97
-1 | | -1
0 | | 0
1 | | 1
2 | | 2
3 | | 3
bl | | 32
here | | 28
um* | -1 -1 | 1 -2
um/mod | 7 0 2 | 1 3
um/mod | 7 1 16 | 7 0x10000000
d+ | -1 1 2 3 | 1 5
d- | 0 5 1 2 | -1 2
sm/rem | -7 -1 2 | -1 -3
fm/mod | -7 -1 2 | 1 -4
@ | 0 | 5
@ | 4 | 0x800102ff
w@ | 4 | 0x8001
w@ | 6 | 0x02ff
c@ | 7 | 255
c@ | 27 | 99
comp | 0 1 3 | -1
comp | 0 20 2 | 0
comp | 4 5 2 | 1
my-self | | 0
decode-int | 20 8 | 24 4 0x0102
decode-int | 24 4 | 28 0 0x61620063
decode-string | 24 4 | 27 1 24 2
decode-string | 20 8 | 21 7 20 0
decode-string | 22 5 | 27 0 22 4
encode+ | 3 5 8 3 | 3 8
encode+ | 3 0 3 2 | 3 2
encode+ | 28 0 28 0 | 28 0
execute | 4 119 | 4 0
throw | 4 0 | 4
catch | 6 41 | 6 6 0
`

// row: the cells of a text.
func row(t *testing.T, text string) []uint32 {
	var l []uint32
	for _, s := range strings.Fields(text) {
		n, err := strconv.ParseInt(s, 0, 64)
		if err != nil {
			t.Fatal(err)
		}
		l = append(l, uint32(n))
	}
	return l
}

// P11.1: each first word that turns cells: by itself and called by a colon word, over cells that stay.
func TestTurned(t *testing.T) {
	for line := range strings.Lines(strings.TrimSpace(turned)) {
		f := strings.Split(line, "|")
		name, in, out := strings.TrimSpace(f[0]), row(t, f[1]), row(t, f[2])
		for _, below := range [][]uint32{nil, {17, 1 << 31}} {
			m := holding(desk(), append(slices.Clone(below), in...)...)
			want := holding(desk(), append(slices.Clone(below), out...)...)
			if name == "depth" {
				want.Stack[len(want.Stack)-1] += uint32(len(below))
			}
			if y, _, e := run(t, m, find(m, name), 5); e != api.OK || !alike(y, want) {
				t.Errorf("%s: %v, %v", line, y.Stack, e)
			}
			m, xt := behind(t, m, "call:"+name)
			if y, _, e := run(t, m, xt, 7); e != api.OK || !slices.Equal(y.Stack, want.Stack) {
				t.Errorf("%s, called: %v, %v", line, y.Stack, e)
			}
		}
	}
}

// P11.1: every first word is run by a test of a table here, or by one that names it.
func TestAllFirstWords(t *testing.T) {
	told := map[string]int{}
	for line := range strings.Lines(strings.TrimSpace(turned)) {
		told[strings.Fields(line)[0]]++
	}
	const elsewhere = "i j >r r> r@ unloop +! ! w! c! move fill alloc-mem emit type cr u. . base! property encode-int encode-string " +
		"new-device finish-device my-parent $call-method get-my-property delete-property"
	for _, name := range strings.Fields(elsewhere) {
		told[name]++
	}
	for _, p := range dict.Prims() {
		if told[p.Name] == 0 {
			t.Errorf("%s is nowhere", p.Name)
		}
		delete(told, p.Name)
	}
	if len(told) > 0 {
		t.Errorf("no first words: %v", told)
	}
}

// P11.1: each kind of word, run; the steps that it takes.
func TestKindsOfWords(t *testing.T) {
	for _, c := range []struct {
		name  string
		m     api.Machine
		steps int
		want  []uint32
	}{
		{"k", desk(), 1, cells(3, 7)},
		{"v", desk(), 1, cells(3, 5)},
		{"var", desk(), 1, cells(3, 4)},
		{"d", desk(), 2, cells(3, 3)},
		{"c", as(desk(), onDisk), 1, cells(3, 31)},
		{"c", as(desk(), other), 1, cells(3, 41)},
		{"me", as(desk(), onTty), 3, cells(3, onTty+1)},
		{"dup", desk(), 1, cells(3, 3)},
	} {
		m := holding(c.m, 3)
		want := holding(c.m, c.want...)
		if y, left, e := run(t, m, find(m, c.name), plenty); e != api.OK || !alike(y, want) || left != plenty-c.steps {
			t.Errorf("%s: %v, %d, %v", c.name, y.Stack, plenty-left, e)
		}
		if _, _, e := run(t, m, find(m, c.name), c.steps); e != api.OK {
			t.Errorf("%s with just enough: %v", c.name, e)
		}
		for fuel := range c.steps {
			if _, _, e := run(t, m, find(m, c.name), fuel); e != api.ErrFuel {
				t.Errorf("%s with %d: %v", c.name, fuel, e)
			}
		}
	}
	for name, m := range map[string]api.Machine{"none": desk(), "the bus's": as(desk(), onBus), "the tty's": as(desk(), onTty)} {
		if _, _, e := run(t, m, wInst, plenty); e != api.ErrSelf {
			t.Errorf("c, at work %s: %v", name, e)
		}
	}
}

// P11.1: a deferred word may lead through others, a step each; to itself it leads until no step is left.
func TestDeferred(t *testing.T) {
	m := holding(desk(), 3)
	m.Words = append(m.Words, api.Word{Name: "e", Node: -1, Kind: api.WDefer, N: wDefer}, api.Word{Name: "self", Node: -1, Kind: api.WDefer, N: deskWords + 1})
	if y, left, e := run(t, m, deskWords, 5); e != api.OK || left != 2 || !slices.Equal(y.Stack, cells(3, 3)) {
		t.Errorf("through one: %v, %d, %v", y.Stack, left, e)
	}
	for _, fuel := range []int{0, 1, 50, api.MaxFuel} {
		if _, _, e := run(t, m, deskWords+1, fuel); e != api.ErrFuel {
			t.Errorf("to itself with %d: %v", fuel, e)
		}
	}
	leaves(t, m, "'k to:e e 'dup to:e 8 e", 3, 7, 8, 8)
	errs(t, m, "'self to:e e", api.ErrFuel)
}

// P11.1: each instruction, and where it goes on.
func TestInstructions(t *testing.T) {
	for _, c := range []struct {
		text string
		in   []uint32
		want []uint32
	}{
		{"olit:4294967295 olit:0", nil, cells(minus(1), 0)},
		{"obranch:2 olit:1 olit:2", nil, cells(2)},
		{"obranch:2 olit:1", nil, nil},
		{"ozero:2 olit:1 olit:2", cells(0), cells(2)},
		{"ozero:2 olit:1 olit:2", cells(9), cells(1, 2)},
		{"ozero:1", cells(7, 0), cells(7)},
		{"odrop:0", cells(7, 8), cells(7)},
		{"oexit:0 olit:1", cells(7), cells(7)},
		{"oof:2 olit:1 olit:2", cells(9, 4, 4), cells(9, 1, 2)},
		{"oof:2 olit:1 olit:2", cells(9, 4, 5), cells(9, 4, 2)},
		{"odo:0 oleave:3 olit:1 olit:2", cells(6, 5, 4), cells(6, 2)},
		{"oqdo:3 i unloop olit:3", cells(5, 5), cells(3)},
		{"oqdo:3 i unloop olit:3", cells(6, 5), cells(5, 3)},
		{"odo:0 i r> r>", cells(6, 5), cells(5, 5, 6)},
		{"oto:112 call:v", cells(8, 9), cells(8, 9)},
		{"'negate to:d k d", nil, cells(minus(7))},
	} {
		leaves(t, holding(desk(), c.in...), c.text, c.want...)
	}
}

// P11.1: the examples of the chapter.
func TestExamples(t *testing.T) {
	m, xt := behind(t, desk(), "olit:10 olit:0 odo:5 i oloop:3")
	if y, left, e := run(t, m, xt, 1+3+10*3); e != api.OK || left != 0 || !slices.Equal(y.Stack, cells(0, 1, 2, 3, 4, 5, 6, 7, 8, 9)) {
		t.Errorf("the loop: %v, %d, %v", y.Stack, left, e)
	}
	if _, _, e := run(t, m, xt, 1+3+10*3-1); e != api.ErrFuel {
		t.Errorf("the loop with a step too few: %v", e)
	}
	if _, _, e := run(t, desk(), find(desk(), "dup"), plenty); e != api.ErrUnder {
		t.Errorf("dup: %v", e)
	}
	leaves(t, known(t, desk(), "five 5 throw"), "'five catch", 5)
}

// P11.1: loops go from the start up to the limit, round the ring of cells, in one another, and are left.
func TestLoops(t *testing.T) {
	m := desk()
	leaves(t, m, "3 0 do i loop", 0, 1, 2)
	leaves(t, m, "1 0 do i loop", 0)
	leaves(t, m, "2 -2 do i loop", minus(2), minus(1), 0, 1)
	leaves(t, m, "0x80000001 0x7fffffff do i loop", 1<<31-1, 1<<31)
	leaves(t, m, "4 4 ?do i loop 9", 9)
	leaves(t, m, "5 4 ?do i loop 9", 4, 9)
	leaves(t, m, "2 0 do 12 10 do i j loop loop", 10, 0, 11, 0, 10, 1, 11, 1)
	leaves(t, m, "9 0 do i dup 2 = if drop leave then loop 7", 0, 1, 7)
	leaves(t, m, "9 0 do i 3 = if unloop exit then i loop 7", 0, 1, 2)
	leaves(t, m, "3 0 do 8 i do i 7 = if leave then loop i loop", 0, 1, 2)
	errs(t, m, "9 0 do exit loop", api.ErrRet)
	errs(t, m, "4 4 do loop", api.ErrFuel)
}

// P11.1: a step crosses the limit or it doesn't: upward from below it to it or above, downward from it or above to below.
func TestPlus(t *testing.T) {
	const top, low = math.MaxInt32, math.MinInt32
	for _, c := range []struct {
		x, s int64 // index less limit, and the step
		over bool
	}{
		{-1, 1, true}, {-1, 2, true}, {-2, 1, false}, {-2, 2, true}, {-2, 3, true}, {-1, 0, false}, {-1, -1, false},
		{0, 0, false}, {0, 1, false}, {0, -1, true}, {1, -1, false}, {1, -2, true}, {5, -5, false}, {5, -6, true}, {5, 1, false},
		{0, top, false}, {0, low, true}, {-1, top, true}, {-1, low, false}, {top, 1, false}, {top, top, false}, {top, low, true},
		{low, -1, false}, {low, low, false}, {low, top, false}, {low, 1, false}, {low + 1, top, true}, {top, -top, false},
	} {
		for _, limit := range []uint32{0, 7, 1 << 31, math.MaxUint32} {
			index := limit + uint32(c.x)
			m := holding(desk(), limit, index, uint32(c.s))
			// Behind the loop 1 is put; where it is done again, its cells are told.
			text := "rot rot odo:0 oplus:6 olit:1 oexit:0 r> r> olit:2"
			want := cells(1)
			if !c.over {
				want = cells(index+uint32(c.s), limit, 2)
			}
			leaves(t, m, text, want...)
		}
	}
	leaves(t, desk(), "0 9 do i -4 +loop", 9, 5, 1)
	leaves(t, desk(), "0 8 do i -4 +loop", 8, 4, 0)
	leaves(t, desk(), "10 0 do i 4 +loop", 0, 4, 8)
	leaves(t, desk(), "3 3 ?do i 1 +loop 8", 8)
}

// P11.1: cells go over the return stack, the top last.
func TestReturnStack(t *testing.T) {
	m := holding(desk(), 1, 2, 3)
	leaves(t, m, ">r >r r@ r> r>", 1, 2, 2, 3)
	leaves(t, m, ">r >r >r r@ i j r> r> r>", 1, 1, 3, 1, 2, 3)
	leaves(t, m, ">r >r unloop", 1)
	leaves(t, m, ">r >r >r unloop r>", 3)
	leaves(t, known(t, m, "inside 5 >r r@ r>"), ">r inside r>", 1, 2, 5, 5, 3)
	leaves(t, m, ">r 9 'dup execute r>", 1, 2, 9, 9, 3)
	leaves(t, m, "'>r execute 'r@ execute 'r> execute", 1, 2, 3, 3)
	leaves(t, m, "'>r to:d d r>", 1, 2, 3)
}

// reaching: the desk with a word that puts so many cells on the return stack, does these, and shows an x.
func reaching(own int, l ...api.Op) api.Machine {
	m := desk()
	var ops []api.Op
	for range own {
		ops = append(ops, lit(7), call(m, ">r"))
	}
	for _, o := range l {
		if o.Kind != api.OLit && o.Kind != api.OCall && o.Kind != api.OTo {
			o.N = uint32(len(ops) + 1)
		}
		ops = append(ops, o)
	}
	ops = append(ops, lit('x'), call(m, "emit"))
	m.Words = append(m.Words, api.Word{Name: "it", Node: -1, Kind: api.WColon, Code: ops})
	return m
}

// P11.1: who has too few cells of its own on the return stack errs, whatever cells of others lie below.
func TestReturnStackOfOthers(t *testing.T) {
	m := desk()
	xt := func(name string) api.Op { return lit(uint32(find(m, name))) }
	for _, c := range []struct {
		needs int
		ops   []api.Op
	}{
		{1, []api.Op{call(m, "r>")}}, {1, []api.Op{call(m, "r@")}}, {1, []api.Op{call(m, "i")}}, {3, []api.Op{call(m, "j")}},
		{2, []api.Op{call(m, "unloop")}}, {2, []api.Op{{Kind: api.OLoop}}}, {2, []api.Op{lit(1), {Kind: api.OPlus}}}, {2, []api.Op{{Kind: api.OLeave}}},
		{1, []api.Op{xt("r>"), call(m, "execute")}}, {3, []api.Op{xt("j"), call(m, "execute")}},
		{2, []api.Op{xt("unloop"), {Kind: api.OTo, N: wDefer}, call(m, "d")}},
	} {
		for own := range 5 {
			for below := range 5 {
				m := known(t, reaching(own, c.ops...), "caught 'it catch")
				hidden := strings.Repeat("7 >r ", below)
				y := done(t, m, hidden+"caught"+strings.Repeat(" r> drop", below))
				if shown := y.Out == "x"; shown != (own >= c.needs) {
					t.Errorf("%v with %d of its own over %d: shown %q", c.ops, own, below, y.Out)
				}
				// What is left over of its own is an error too; only where nothing is, there is none.
				if got := y.Stack[len(y.Stack)-1]; got != 0 && got != uint32(api.ErrRet) || got == 0 && own < c.needs {
					t.Errorf("%v with %d of its own over %d: %d", c.ops, own, below, got)
				}
			}
		}
	}
}

// P11.1: what is caught has no cells below, also where it is no colon word.
func TestReturnStackOfCaught(t *testing.T) {
	for _, name := range []string{"r>", "r@", "i", "j", "unloop"} {
		leaves(t, desk(), "1 2 3 >r >r >r '"+name+" catch r> r> r>", uint32(api.ErrRet), 1, 2, 3)
		leaves(t, desk(), "1 2 3 >r >r >r '"+name+" 'execute catch r> r> r>", 0, uint32(api.ErrRet), 1, 2, 3)
	}
	leaves(t, desk(), "1 >r 8 '>r catch r>", 0, uint32(api.ErrRet), 1)
	leaves(t, known(t, desk(), "lays 5 >r r@ r>"), "1 >r 'lays catch r>", 5, 5, 0, 1)
	if _, _, e := run(t, holding(desk(), 4), find(desk(), ">r"), plenty); e != api.ErrRet {
		t.Errorf(">r by itself: %v", e)
	}
	if _, _, e := run(t, desk(), find(desk(), "r>"), plenty); e != api.ErrRet {
		t.Errorf("r> by itself: %v", e)
	}
	m := with(func(m *api.Machine) { m.Words[wDefer].N = uint32(find(*m, ">r")); m.Stack = cells(4) })
	if _, _, e := run(t, m, wDefer, plenty); e != api.ErrRet {
		t.Errorf(">r by itself, deferred: %v", e)
	}
}

// P11.1: a word is over, at its end or with an exit, just where the return stack is as high as it was.
func TestEnds(t *testing.T) {
	for _, end := range []string{"", " exit", " exit 1"} {
		for _, c := range []struct {
			text string
			want api.Errno
		}{
			{"", api.OK}, {"7 >r", api.ErrRet}, {"7 >r 8 >r", api.ErrRet}, {"7 >r r> drop", api.OK}, {"2 1 odo:0", api.ErrRet}, {"2 1 odo:0 unloop", api.OK},
		} {
			m := known(t, desk(), "it "+c.text+end)
			if _, _, e := run(t, m, find(m, "it"), plenty); e != c.want {
				t.Errorf("%s%s: %v; want %v", c.text, end, e, c.want)
			}
			errs(t, m, "1 >r it r> drop", c.want)
			errs(t, m, "it it", c.want)
			leaves(t, m, "1 >r 'it catch r> drop", uint32(c.want))
		}
	}
	// The end of a word takes no step, so that none need be left for its error; an exit takes one.
	m := known(t, desk(), "end 7 >r", "out 7 >r exit")
	for fuel, want := range []api.Errno{api.ErrFuel, api.ErrFuel, api.ErrFuel, api.ErrFuel, api.ErrRet, api.ErrRet} {
		if _, _, e := run(t, m, find(m, "end"), fuel); e != want {
			t.Errorf("an end with %d steps: %v", fuel, e)
		}
	}
	for fuel, want := range []api.Errno{api.ErrFuel, api.ErrFuel, api.ErrFuel, api.ErrFuel, api.ErrFuel, api.ErrRet} {
		if _, _, e := run(t, m, find(m, "out"), fuel); e != want {
			t.Errorf("an exit with %d steps: %v", fuel, e)
		}
	}
}

// P11.1: what is stored, moved and filled.
func TestMemory(t *testing.T) {
	for _, c := range []struct {
		text string
		want string // the memory then, of abcdefgh
	}{
		{"0x31323334 0 !", "1234efgh"}, {"0x31323334 4 !", "abcd1234"}, {"0x31323334 2 w!", "ab34efgh"}, {"0x31323334 7 c!", "abcdefg4"},
		{"0x01010101 4 +!", "abcdfghi"}, {"-1 0 +!", "abccefgh"}, {"0 1 4 move", "aabcdfgh"}, {"2 0 6 move", "cdefghgh"}, {"8 0 0 move", "abcdefgh"},
		{"2 3 0x15a fill", "abZZZfgh"}, {"8 0 5 fill", "abcdefgh"}, {"0 8 42 fill", "********"},
		{"3 alloc-mem drop", "abcdefgh\x00\x00\x00"}, {"0 alloc-mem drop", "abcdefgh"}, {"1 alloc-mem 1 alloc-mem 2drop", "abcdefgh\x00\x00\x00\x00\x00"},
		{"0x01020304 encode-int 2drop", "abcdefgh\x01\x02\x03\x04"}, {"1 2 encode-string 2drop", "abcdefghbc\x00"},
		{"5 0 encode-string 2drop", "abcdefgh\x00"}, {"4 2 0 3 encode+ 2drop", "abcdefghefabc"}, {"0 2 2 2 encode+ 2drop", "abcdefgh"},
	} {
		m := with(func(m *api.Machine) { m.Mem = []byte("abcdefgh") })
		want := with(func(m *api.Machine) { m.Mem = []byte(c.want) })
		y := done(t, m, c.text)
		want.Words = y.Words
		if !alike(y, want) {
			t.Errorf("%s: %q, %v", c.text, y.Mem, y.Stack)
		}
	}
	m := with(func(m *api.Machine) { m.Mem = []byte("abcde") })
	leaves(t, m, "2 alloc-mem here 0 alloc-mem", 8, 10, 12)
	leaves(t, m, "7 encode-int 9 encode-int encode+", 8, 8)
	leaves(t, m, "0 3 encode-string 9 encode-int encode+", 8, 8)
	leaves(t, m, "0 2 encode-string 9 encode-int encode+", 16, 7)
	leaves(t, m, "1 2 encode-string", 8, 3)
}

// P11.1: what the console shows, and in which base.
func TestConsole(t *testing.T) {
	for _, c := range []struct {
		text, want string
		base       uint32
	}{
		{"65 emit 0x142 emit 0 emit -1 emit", "AB\x00\xff", 10}, {"8 3 type 11 2 type 0 0 type 28 0 type", "reghi", 10}, {"cr cr", "\n\n", 10},
		{"255 u. -1 u. 0 u.", "255 4294967295 0 ", 10}, {"255 . -1 . 0 . 0x80000000 .", "255 -1 0 -2147483648 ", 10},
		{"16 base! 255 u. -255 .", "ff -ff ", 16}, {"2 base! 5 . -5 . -1 u.", "101 -101 11111111111111111111111111111111 ", 2},
		{"36 base! 71 u. -71 .", "1z -1z ", 36}, {"3 base! 9 base! 10 .", "11 ", 9},
	} {
		m := with(func(m *api.Machine) { m.Out = ">" })
		y := done(t, m, c.text)
		want := with(func(m *api.Machine) { m.Out, m.Base, m.Words = ">"+c.want, c.base, y.Words })
		if !alike(y, want) {
			t.Errorf("%s: %q, base %d, %v", c.text, y.Out, y.Base, y.Stack)
		}
	}
}

// P11.1: properties of the device at work are set, got and dropped; those of others stay.
func TestProperties(t *testing.T) {
	m := atWork(desk(), disk)
	y := done(t, m, "11 2 8 3 property 24 3 15 2 property 0 0 13 2 property")
	want := desk().Tree
	want[disk].Props = []api.Prop{{Name: "a"}, {Name: "reg", Data: []byte("hi")}, {Name: "zz", Data: []byte("ab\x00")}, {Name: "go"}}
	if len(y.Stack) != 0 || y.Node != disk || !slices.EqualFunc(y.Tree, want, alikeNode) {
		t.Errorf("property: %v, %v", y.Stack, y.Tree)
	}
	y = done(t, m, "8 3 delete-property")
	want[disk].Props = []api.Prop{{Name: "a"}}
	if len(y.Stack) != 0 || !slices.EqualFunc(y.Tree, want, alikeNode) {
		t.Errorf("delete-property: %v, %v", y.Stack, y.Tree)
	}
	y = done(t, m, "8 3 get-my-property 25 1 get-my-property 24 1 get-my-property 17 2 get-my-property 0 0 get-my-property")
	if !slices.Equal(y.Stack, cells(28, 3, 0, minus(1), 32, 0, 0, minus(1), minus(1))) || string(y.Mem[28:]) != "\x09\x08\x07\x00" || string(y.Mem[:28]) != string(m.Mem) {
		t.Errorf("get-my-property: %v, %q", y.Stack, y.Mem)
	}
	if !slices.EqualFunc(y.Tree, m.Tree, alikeNode) {
		t.Errorf("get-my-property: %v", y.Tree)
	}
	leaves(t, atWork(desk(), bus), "8 3 get-my-property", minus(1))
	leaves(t, atWork(desk(), 0), "5 encode-int 8 3 property 8 3 get-my-property drop decode-int", 36, 0, 5)
}

// P11.1: devices are added to the one at work, or to the root, and finished.
func TestNewDevice(t *testing.T) {
	for _, c := range []struct {
		node int
		text string
		want api.Node
		then int
	}{
		{-1, "0 8 3 new-device", api.Node{Name: "reg", Parent: 0}, 4},
		{0, "6 1 8 3 new-device", api.Node{Name: "reg", Parent: 0, Unit: cells(6)}, 4},
		{bus, "9 6 5 2 8 3 new-device", api.Node{Name: "reg", Parent: bus, Unit: cells(6, 5)}, 4},
		{tty, "9 1 2 3 4 4 8 3 new-device", api.Node{Name: "reg", Parent: tty, Unit: cells(1, 2, 3, 4)}, 4},
		{tty, "0 8 3 new-device finish-device", api.Node{Name: "reg", Parent: tty}, tty},
		{tty, "0 8 3 new-device finish-device finish-device", api.Node{Name: "reg", Parent: tty}, bus},
		{bus, "0 8 3 new-device finish-device finish-device finish-device", api.Node{Name: "reg", Parent: bus}, -1},
	} {
		y := done(t, atWork(desk(), c.node), c.text)
		want := append(desk().Tree, c.want)
		below := slices.Equal(y.Stack, cells(9)) || len(y.Stack) == 0
		if !below || y.Node != c.then || !slices.EqualFunc(y.Tree, want, alikeNode) {
			t.Errorf("%s: %v, %d, %v", c.text, y.Stack, y.Node, y.Tree)
		}
	}
	y := done(t, desk(), "0 8 3 new-device 0 11 2 new-device 5 encode-int 8 3 property finish-device 7 1 11 2 new-device")
	if len(y.Tree) != 7 || y.Tree[4].Parent != 0 || y.Tree[5].Parent != 4 || y.Tree[6].Parent != 4 || y.Node != 6 || len(y.Tree[5].Props) != 1 {
		t.Errorf("in one another: %v, %d", y.Tree, y.Node)
	}
}

// P11.1: the instance at work, and the one that it stands on.
func TestInstances(t *testing.T) {
	for self, parent := range map[int]uint32{onDisk: onBus + 1, onBus: 0, onTty: onBus + 1, other: 0} {
		leaves(t, as(desk(), self), "my-self my-parent", uint32(self+1), parent)
	}
	leaves(t, desk(), "my-self", 0)
	errs(t, desk(), "my-parent", api.ErrSelf)
}

// P11.1: methods are run for their instance, which is at work till they are over; methods within methods.
func TestMethods(t *testing.T) {
	leaves(t, desk(), "11 2 1 $call-method my-self", 31, 1, 0)
	leaves(t, desk(), "11 2 5 $call-method my-self", 41, 5, 0)
	leaves(t, as(desk(), onTty), "11 2 3 $call-method my-self", 77, onTty+1)
	// The newest word of that name of the device counts.
	m := with(func(m *api.Machine) {
		m.Words = append(m.Words, api.Word{Name: "hi", Node: disk, Kind: api.WConst, N: 6}, api.Word{Name: "hi", Node: -1, Kind: api.WConst, N: 8})
	})
	leaves(t, m, "11 2 1 $call-method 11 2 3 $call-method", 6, 77)
	// go calls hi of the instance of the bus, and of the other one, between telling what is at work.
	m = known(t, desk(), "go 1 my-self 11 2 3 $call-method my-self 11 2 5 $call-method my-self c 9 to:c")
	m.Words[len(m.Words)-1].Node = disk
	y := done(t, as(m, onTty), "13 2 1 $call-method my-self")
	if !slices.Equal(y.Stack, cells(1, 1, 77, 1, 41, 5, 1, 31, onTty+1)) || y.Self != onTty {
		t.Errorf("within one another: %v, %d", y.Stack, y.Self)
	}
	if !slices.Equal(y.Insts[onDisk].Cells, cells(30, 9)) || !slices.Equal(y.Insts[other].Cells, cells(40, 41)) {
		t.Errorf("cells: %v", y.Insts)
	}
	// A method that is no colon word has the return stack of who calls it.
	leaves(t, desk(), "4 13 2 1 $call-method r@ r>", 4, 4)
	leaves(t, desk(), "4 13 2 1 '$call-method catch", 0, 0, 0, 0, uint32(api.ErrRet))
	leaves(t, desk(), "'r> to:d 4 >r 'd to:go 13 2 1 $call-method", 4)
	leaves(t, known(t, desk(), "takes 13 2 1 $call-method"), "'r> to:go 4 >r 'takes catch r>", uint32(api.ErrRet), 4)
}

// P11.1: errors in methods go out through them, and who was at work is at work again.
func TestMethodsThatErr(t *testing.T) {
	m := known(t, desk(), "fail 9 to:c my-self throw", "calls 13 2 5 $call-method", "safe 'calls catch my-self")
	m.Words[diskGo].N = uint32(find(m, "fail"))
	leaves(t, as(m, onTty), "safe", 5, onTty+1)
	leaves(t, m, "'safe catch my-self", 5, 0, 0, 0)
	if n, e := inner.Thrown(m, find(m, "calls"), plenty); n != 5 || e != api.ErrThrow {
		t.Errorf("not caught: %d, %v", n, e)
	}
	// Caught within the method, its instance is at work still.
	m = known(t, desk(), "fail my-self throw", "own 'fail catch my-self c", "calls 13 2 5 $call-method my-self")
	m.Words[diskGo].N = uint32(find(m, "own"))
	leaves(t, as(m, onBus), "calls", 5, 5, 41, onBus+1)
	if y := done(t, known(t, m, "deep 13 2 1 $call-method 3 throw"), "'deep catch"); y.Self != -1 {
		t.Errorf("behind a catch: %d", y.Self)
	}
}
