package inner_test

import (
	"math"
	"slices"
	"strconv"
	"strings"
	"testing"

	"tinder/api"
	"tinder/dict"
	"tinder/inner"
)

// topped: so many cells, these on top.
func topped(n int, top ...uint32) []uint32 {
	return append(many(n-len(top)), top...)
}

// fails: does the word err so, and has it changed nothing then, as is seen where it is caught?
func fails(t *testing.T, m api.Machine, xt int, want api.Errno) {
	t.Helper()
	name := m.Words[xt].Name
	if _, _, e := run(t, m, xt, plenty); e != want {
		t.Errorf("%s on %v: %v; want %v", name, m.Stack, e, want)
		return
	}
	c := uint32(want)
	if want == api.ErrThrow {
		c, _ = inner.Thrown(m, xt, plenty)
	}
	same := m
	if len(m.Stack) < api.MaxStack {
		same.Stack = append(slices.Clone(m.Stack), c)
		m.Stack = append(slices.Clone(m.Stack), uint32(xt))
	} else {
		// Where there is no room for the word's number, what is caught puts the top there itself.
		last := len(m.Stack) - 1
		code := []api.Op{lit(m.Stack[last]), {Kind: api.OCall, N: uint32(xt)}}
		m.Words = append(slices.Clone(m.Words), api.Word{Node: -1, Kind: api.WColon, Code: code})
		same.Words = m.Words
		same.Stack = append(slices.Clone(m.Stack[:last]), c)
		m.Stack = append(slices.Clone(m.Stack[:last]), uint32(len(m.Words)-1))
	}
	y, _, e := run(t, m, find(m, "catch"), plenty)
	if e != api.OK || !alike(y, same) {
		t.Errorf("%s, caught: %v, %v; want %v", name, y.Stack, e, same.Stack)
	}
}

// takes: how many cells each first word takes that takes any; of those that take as many as a cell says, so many at least.
const takes = `execute 1 + 2 - 2 * 2 / 2 mod 2 and 2 or 2 xor 2 invert 1 lshift 2 rshift 2 >>a 2 /mod 2 u/mod 2 negate 1 abs 1 min 2 max 2
>r 1 0= 1 0<> 1 0< 1 0<= 1 0> 1 0>= 1 < 2 > 2 = 2 <> 2 u> 2 u<= 2 u< 2 u>= 2 >= 2 <= 2 drop 1 dup 1 over 2 swap 2 rot 3 -rot 3 tuck 2 nip 2
pick 2 roll 2 ?dup 1 2drop 2 2dup 2 2over 4 2swap 4 2rot 6 2/ 1 u2/ 1 2* 1 +! 2 @ 1 w@ 1 c@ 1 ! 2 w! 2 c! 2 move 3 fill 3 comp 3
lbsplit 1 bljoin 4 wbflip 1 upc 1 lcc 1 alloc-mem 1 emit 1 type 2 u. 1 . 1 base! 1 um* 2 um/mod 3 d+ 4 d- 4 property 4 encode-int 1
encode+ 4 encode-string 2 new-device 3 sm/rem 3 $call-method 3 catch 1 throw 1 get-my-property 2 decode-int 2 decode-string 2
delete-property 2 fm/mod 3`

// P11.1: where cells lack, it is ErrUnder, ahead of all else that may be wrong.
func TestUnder(t *testing.T) {
	f := strings.Fields(takes)
	for i := 0; i < len(f); i += 2 {
		n, err := strconv.Atoi(f[i+1])
		if err != nil {
			t.Fatal(err)
		}
		for height := range n {
			// Noughts and great numbers are wrong for most of them.
			for _, cell := range []uint32{0, math.MaxUint32} {
				m := with(func(m *api.Machine) { m.Out = strings.Repeat("x", api.MaxOut); m.Mem = make([]byte, api.MaxMem) })
				fails(t, holding(m, slices.Repeat(cells(cell), height)...), find(m, f[i]), api.ErrUnder)
			}
		}
	}
	for _, c := range []struct {
		text   string
		height int
	}{
		{"ozero:0", 1}, {"odo:0", 2}, {"oqdo:0", 2}, {"oof:0", 2}, {"odrop:0", 1}, {"oto:112", 1}, {"oto:114", 1}, {"oto:115", 1},
	} {
		for height := range c.height {
			m, xt := behind(t, holding(desk(), slices.Repeat(cells(4), height)...), c.text)
			fails(t, m, xt, api.ErrUnder)
		}
	}
	// Of the numbers that a cell asks for.
	fails(t, holding(desk(), 1, 2, 3, 3), find(desk(), "pick"), api.ErrUnder)
	fails(t, holding(desk(), 1, 2, 3, math.MaxUint32), find(desk(), "roll"), api.ErrUnder)
	fails(t, holding(desk(), 1, 2, 3, atReg, 3), find(desk(), "new-device"), api.ErrUnder)
	fails(t, holding(desk(), 1, 1<<31, 1<<31), find(desk(), "new-device"), api.ErrUnder)
}

// P11.1: a stack of MaxStack cells is taken, one more is ErrOver.
func TestOver(t *testing.T) {
	inDisk := atWork(as(desk(), onDisk), disk)
	for _, c := range []struct {
		name string
		more int // how many cells more there are behind it
		top  []uint32
	}{
		{"dup", 1, cells(5)}, {"over", 1, cells(5, 6)}, {"tuck", 1, cells(5, 6)}, {"?dup", 1, cells(5)}, {"depth", 1, nil}, {"2dup", 2, cells(5, 6)},
		{"2over", 2, cells(5, 6, 7, 8)}, {"lbsplit", 3, cells(5)}, {"-1", 1, nil}, {"0", 1, nil}, {"1", 1, nil}, {"2", 1, nil}, {"3", 1, nil}, {"bl", 1, nil},
		{"here", 1, nil}, {"my-self", 1, nil}, {"my-parent", 1, nil}, {"encode-int", 1, cells(5)}, {"decode-int", 1, cells(20, 8)}, {"decode-string", 2, cells(20, 8)},
		{"get-my-property", 1, cells(atReg, 3)}, {"k", 1, nil}, {"v", 1, nil}, {"var", 1, nil}, {"c", 1, nil}, {"d", 1, cells(5)},
	} {
		for free := range 5 {
			m := holding(inDisk, topped(api.MaxStack-free, c.top...)...)
			if free < c.more {
				fails(t, m, find(m, c.name), api.ErrOver)
			} else if y, _, e := run(t, m, find(m, c.name), plenty); e != api.OK || len(y.Stack) != api.MaxStack-free+c.more {
				t.Errorf("%s with room for %d: %v, %v", c.name, free, y.Stack, e)
			}
		}
	}
	for _, name := range []string{"pick", "roll", "swap", "+", "drop", "alloc-mem", "encode+", "comp", "@", "c@", "um*", "um/mod", "/mod", "bljoin", "d+", "throw"} {
		m := holding(inDisk, topped(api.MaxStack, 0, 0, 0, 1)...)
		if name == "throw" || name == "@" || name == "c@" {
			m.Stack[api.MaxStack-1] = 0
		}
		if _, _, e := run(t, m, find(m, name), plenty); e != api.OK {
			t.Errorf("%s on a full stack: %v", name, e)
		}
	}
	m, xt := behind(t, holding(desk(), many(api.MaxStack)...), "olit:1")
	fails(t, m, xt, api.ErrOver)
	m, xt = behind(t, holding(desk(), many(api.MaxStack-1)...), "olit:1")
	if _, _, e := run(t, m, xt, plenty); e != api.OK {
		t.Errorf("a last cell: %v", e)
	}
}

// P11.1: cells off the return stack need room on the stack; ErrOver comes behind ErrRet.
func TestOverFromReturnStack(t *testing.T) {
	for _, name := range []string{"r>", "r@", "i", "j"} {
		m := known(t, holding(desk(), many(api.MaxStack-3)...), "full 1 >r 1 >r 1 >r 1 1 1 "+name, "room 1 >r 1 >r 1 >r 1 1 "+name+" drop unloop r> drop", "bare 1 1 1 "+name)
		errs(t, m, "full", api.ErrOver)
		errs(t, m, "bare", api.ErrRet)
		if name != "r>" {
			errs(t, m, "room", api.OK)
		}
	}
}

// P11.1: where several errors of a first word are due, the one that its words name first comes.
func TestOrderOfErrors(t *testing.T) {
	const big = math.MaxUint32
	full := with(func(m *api.Machine) { m.Mem = append(m.Mem, make([]byte, api.MaxMem-deskSize)...) })
	shown := with(func(m *api.Machine) { m.Out = strings.Repeat("x", api.MaxOut) })
	worked := atWork(desk(), disk)
	crowded := with(func(m *api.Machine) {
		m.Node = tty
		for i := range api.MaxProps {
			m.Tree[tty].Props = append(m.Tree[tty].Props, api.Prop{Name: "p" + strconv.Itoa(i)})
		}
		m.Mem = append(m.Mem, make([]byte, 300)...)
	})
	planted := with(func(m *api.Machine) {
		for len(m.Tree) < api.MaxNodes {
			m.Tree = append(m.Tree, api.Node{Name: "n" + strconv.Itoa(len(m.Tree)), Parent: 0})
		}
		m.Tree[4].Name = "reg"
	})
	long := with(func(m *api.Machine) { m.Mem = []byte(strings.Repeat("a", 300) + "\x00") })
	for _, c := range []struct {
		m    api.Machine
		name string
		in   []uint32
		want api.Errno
	}{
		{desk(), "/", cells(1, 0), api.ErrZero}, {desk(), "mod", cells(1, 0), api.ErrZero}, {desk(), "/mod", cells(1, 0), api.ErrZero}, {desk(), "u/mod", cells(1, 0), api.ErrZero},
		{desk(), "um/mod", cells(1, 1, 0), api.ErrZero}, {desk(), "um/mod", cells(1, 1, 1), api.ErrRange}, {desk(), "sm/rem", cells(0, 1, 1), api.ErrRange}, {desk(), "fm/mod", cells(0, 1, 0), api.ErrZero},
		{desk(), "execute", cells(deskWords), api.ErrWord}, {desk(), "execute", cells(big), api.ErrWord}, {desk(), "catch", cells(deskWords), api.ErrWord}, {desk(), "catch", cells(big), api.ErrWord},
		{desk(), "@", cells(1), api.ErrAlign}, {desk(), "@", cells(deskSize), api.ErrAddr}, {desk(), "@", cells(big), api.ErrAlign}, {desk(), "w@", cells(3), api.ErrAlign}, {desk(), "w@", cells(deskSize), api.ErrAddr},
		{desk(), "c@", cells(deskSize), api.ErrAddr}, {desk(), "!", cells(0, 2), api.ErrAlign}, {desk(), "!", cells(0, deskSize), api.ErrAddr}, {desk(), "w!", cells(0, 1), api.ErrAlign},
		{desk(), "w!", cells(0, deskSize), api.ErrAddr}, {desk(), "c!", cells(0, deskSize), api.ErrAddr}, {desk(), "+!", cells(0, 2), api.ErrAlign}, {desk(), "+!", cells(0, deskSize), api.ErrAddr},
		{desk(), "move", cells(0, deskSize, 1), api.ErrAddr}, {desk(), "move", cells(deskSize, 0, 1), api.ErrAddr}, {desk(), "move", cells(0, 1, deskSize), api.ErrAddr}, {desk(), "fill", cells(1, deskSize, 0), api.ErrAddr},
		{desk(), "fill", cells(big, 2, 0), api.ErrAddr}, {desk(), "comp", cells(0, 1, deskSize), api.ErrAddr}, {desk(), "comp", cells(1, 0, deskSize), api.ErrAddr},
		{desk(), "alloc-mem", cells(big), api.ErrRoom}, {full, "alloc-mem", cells(1), api.ErrRoom},
		{shown, "emit", cells(1), api.ErrOut}, {shown, "type", cells(0, 1), api.ErrOut}, {shown, "type", cells(deskSize, 1), api.ErrAddr}, {shown, "type", cells(0, big), api.ErrAddr},
		{shown, "cr", nil, api.ErrOut}, {shown, "u.", cells(1), api.ErrOut}, {shown, ".", cells(1), api.ErrOut},
		{desk(), "base!", cells(0), api.ErrArg}, {desk(), "base!", cells(1), api.ErrArg}, {desk(), "base!", cells(37), api.ErrArg}, {desk(), "base!", cells(big), api.ErrArg},
		{full, "encode-int", cells(1), api.ErrRoom}, {full, "encode-int", topped(api.MaxStack, 1), api.ErrRoom}, {full, "encode-string", cells(atReg, 3), api.ErrRoom},
		{desk(), "encode-string", cells(0, 3), api.ErrText}, {full, "encode-string", cells(0, 3), api.ErrText}, {full, "encode-string", cells(big, 3), api.ErrAddr}, {desk(), "encode-string", cells(0, deskSize+1), api.ErrAddr},
		{long, "encode-string", cells(0, 256), api.ErrLong}, {long, "encode-string", cells(44, 257), api.ErrText},
		{desk(), "encode+", cells(deskSize, 1, 0, 1), api.ErrAddr}, {desk(), "encode+", cells(0, 1, deskSize, 1), api.ErrAddr}, {desk(), "encode+", cells(0, deskSize, deskSize, 1), api.ErrAddr},
		{desk(), "encode+", cells(big, 1, 0, 1), api.ErrAddr}, {full, "encode+", cells(api.MaxMem, 1, 0, 1), api.ErrAddr}, {full, "encode+", cells(0, 1, 2, 1), api.ErrRoom},
		{desk(), "decode-int", cells(0, 3), api.ErrNone}, {desk(), "decode-int", cells(deskSize, 0), api.ErrNone}, {desk(), "decode-int", cells(deskSize, 1), api.ErrAddr}, {desk(), "decode-int", topped(api.MaxStack, 0, 3), api.ErrNone},
		{desk(), "decode-string", cells(atReg, 3), api.ErrNone}, {desk(), "decode-string", cells(big, 3), api.ErrAddr}, {desk(), "decode-string", cells(0, 0), api.ErrNone}, {desk(), "decode-string", topped(api.MaxStack, atReg, 3), api.ErrNone},
		{desk(), "property", cells(big, 1, big, 1), api.ErrNode}, {worked, "property", cells(0, 1, big, 1), api.ErrAddr}, {worked, "property", cells(big, 1, atReg, 3), api.ErrAddr}, {worked, "property", cells(big, 1, atBad, 2), api.ErrAddr},
		{worked, "property", cells(0, 1, atBad, 2), api.ErrArg}, {worked, "property", cells(0, 1, 0, 0), api.ErrArg}, {crowded, "property", cells(0, 257, atBad, 2), api.ErrArg}, {crowded, "property", cells(0, 257, atReg, 3), api.ErrLong},
		{crowded, "property", cells(0, 256, atReg, 3), api.ErrMany}, {desk(), "delete-property", cells(big, 1), api.ErrNode}, {worked, "delete-property", cells(big, 1), api.ErrAddr}, {worked, "delete-property", cells(atZz, 2), api.ErrNone},
		{worked, "delete-property", cells(0, 0), api.ErrNone}, {desk(), "get-my-property", cells(big, 1), api.ErrNode}, {desk(), "get-my-property", topped(api.MaxStack, atReg, 3), api.ErrNode}, {worked, "get-my-property", cells(big, 1), api.ErrAddr},
		{worked, "get-my-property", topped(api.MaxStack, big, 3), api.ErrAddr}, {atWork(full, disk), "get-my-property", cells(atReg, 3), api.ErrRoom}, {atWork(full, disk), "get-my-property", topped(api.MaxStack, atReg, 3), api.ErrRoom},
		{desk(), "new-device", cells(5, big, 1), api.ErrArg}, {desk(), "new-device", cells(big, big, 1), api.ErrArg}, {desk(), "new-device", cells(4, big, 1), api.ErrUnder}, {desk(), "new-device", cells(9, 1, big, 1), api.ErrAddr},
		{desk(), "new-device", cells(0, atBad, 2), api.ErrArg}, {desk(), "new-device", cells(0, 0, 0), api.ErrArg}, {planted, "new-device", cells(0, atBad, 2), api.ErrArg}, {planted, "new-device", cells(0, atReg, 3), api.ErrExist},
		{planted, "new-device", cells(1, 1, atReg, 3), api.ErrMany}, {desk(), "finish-device", nil, api.ErrNode}, {desk(), "my-parent", nil, api.ErrSelf}, {desk(), "my-parent", many(api.MaxStack), api.ErrSelf},
		{desk(), "$call-method", cells(big, 1, 0), api.ErrSelf}, {desk(), "$call-method", cells(big, 1, isFree+1), api.ErrSelf}, {desk(), "$call-method", cells(big, 1, 6), api.ErrSelf}, {desk(), "$call-method", cells(atHi, 2, big), api.ErrSelf},
		{desk(), "$call-method", cells(big, 1, 1), api.ErrAddr}, {desk(), "$call-method", cells(atZz, 2, 1), api.ErrMethod}, {desk(), "$call-method", cells(0, 0, 1), api.ErrMethod}, {desk(), "$call-method", cells(atGo, 2, onBus+1), api.ErrMethod},
		{desk(), "throw", cells(1), api.ErrThrow}, {desk(), "throw", cells(big), api.ErrThrow}, {desk(), "throw", cells(uint32(api.ErrFuel)), api.ErrThrow}, {desk(), "c", many(api.MaxStack), api.ErrSelf}, {as(desk(), onBus), "c", nil, api.ErrSelf},
	} {
		m := holding(c.m, c.in...)
		fails(t, m, find(m, c.name), c.want)
	}
}

// P11.1: To, and an OTo, which does the same: what may be stored where, and the order of errors.
func TestTo(t *testing.T) {
	const big = math.MaxUint32
	for _, c := range []struct {
		m    api.Machine
		n    int
		want api.Errno
	}{
		{holding(desk(), 1, 2), wValue, api.OK}, {holding(desk(), 1, big), wValue, api.OK}, {holding(desk(), 1, wDefer), wDefer, api.OK}, {holding(desk(), deskWords-1), wDefer, api.OK}, {holding(desk(), 0), wDefer, api.OK},
		{holding(as(desk(), onDisk), 1, big), wInst, api.OK}, {holding(as(desk(), other), 1, 2), wInst, api.OK}, {holding(desk(), 9), diskGo, api.OK}, {holding(desk(), many(api.MaxStack)...), wValue, api.OK},
		{desk(), wValue, api.ErrUnder}, {desk(), wDefer, api.ErrUnder}, {desk(), wInst, api.ErrUnder}, {holding(desk(), 1), wInst, api.ErrSelf}, {holding(as(desk(), onTty), 1), wInst, api.ErrSelf},
		{holding(desk(), deskWords+1), wDefer, api.ErrWord}, {holding(desk(), big), wDefer, api.ErrWord}, {desk(), wConst, api.ErrWord}, {holding(desk(), 1), wConst, api.ErrWord}, {holding(desk(), 1), wVar, api.ErrWord},
		{holding(desk(), 1), wSelf, api.ErrWord}, {desk(), wSelf, api.ErrWord}, {holding(desk(), 1), 0, api.ErrWord}, {desk(), api.Prims - 1, api.ErrWord}, {desk(), busHi, api.ErrWord},
	} {
		want := twin(c.m)
		if c.want == api.OK {
			x := want.Stack[len(want.Stack)-1]
			want.Stack = want.Stack[:len(want.Stack)-1]
			if c.n == wInst {
				want.Insts[want.Self].Cells[1] = x
			} else {
				want.Words[c.n].N = x
			}
		}
		y, e := inner.To(c.m, c.n)
		if e != c.want || e == api.OK && (!alike(y, want) || !dict.Formed(y)) || e != api.OK && !isNone(y) {
			t.Errorf("To %d of %v: %v, %v; want %v", c.n, c.m.Stack, y.Stack, e, c.want)
		}
		m, xt := behind(t, c.m, "oto:"+strconv.Itoa(c.n))
		want.Words = append(want.Words, m.Words[xt])
		if c.want != api.OK {
			fails(t, m, xt, c.want)
		} else if y, left, e := run(t, m, xt, 5); e != api.OK || left != 3 || !alike(y, want) {
			t.Errorf("OTo %d of %v: %v, %d, %v", c.n, c.m.Stack, y.Stack, left, e)
		}
	}
	// The word that is the last one there is.
	m, xt := behind(t, holding(desk(), deskWords), "oto:114")
	if y, _, e := run(t, m, xt, 5); e != api.OK || y.Words[wDefer].N != deskWords {
		t.Errorf("the last word: %v", e)
	}
}

// notFormed: machines that are not formed.
func notFormed() []api.Machine {
	return []api.Machine{
		{},
		with(func(m *api.Machine) { m.Stack = many(api.MaxStack + 1) }),
		with(func(m *api.Machine) { m.Mem = make([]byte, api.MaxMem+1) }),
		with(func(m *api.Machine) { m.Base = 37 }),
		with(func(m *api.Machine) { m.Node = 4 }),
		with(func(m *api.Machine) { m.Self = isFree }),
		with(func(m *api.Machine) { m.Tree = nil }),
		with(func(m *api.Machine) { m.Words[wDefer].N = deskWords }),
		with(func(m *api.Machine) { m.Words[wSelf].Code = []api.Op{{Kind: api.OBranch, N: 2}} }),
		with(func(m *api.Machine) { m.Words[0].N = 0x1d }),
		with(func(m *api.Machine) { m.Out = strings.Repeat("x", api.MaxOut+1) }),
	}
}

// P11.1: wrong arguments are ErrArg.
func TestArguments(t *testing.T) {
	for i, m := range notFormed() {
		if y, left, e := inner.Run(m, 41, 100); e != api.ErrArg || !isNone(y) || left != 0 {
			t.Errorf("Run, %d not formed: %v", i, e)
		}
		if n, e := inner.Thrown(m, 41, 100); e != api.ErrArg || n != 0 {
			t.Errorf("Thrown, %d not formed: %v", i, e)
		}
		if y, e := inner.To(m, wValue); e != api.ErrArg || !isNone(y) {
			t.Errorf("To, %d not formed: %v", i, e)
		}
	}
	m := holding(desk(), 1, 2)
	for _, xt := range []int{-1, deskWords, deskWords + 1, api.MaxWords, math.MaxInt, math.MinInt, 1 << 32, 1<<32 + 41, -1 << 32} {
		if _, _, e := run(t, m, xt, 100); e != api.ErrArg {
			t.Errorf("the word %d: %v", xt, e)
		}
		if y, e := inner.To(m, xt); e != api.ErrArg || !isNone(y) {
			t.Errorf("To %d: %v", xt, e)
		}
	}
	for _, fuel := range []int{-1, math.MinInt, api.MaxFuel + 1, math.MaxInt, 1 << 32, -1 << 32} {
		if _, _, e := run(t, m, 41, fuel); e != api.ErrArg {
			t.Errorf("fuel %d: %v", fuel, e)
		}
	}
	for xt := range deskWords {
		if _, _, e := run(t, m, xt, 0); e != api.ErrFuel {
			t.Errorf("the word %d without fuel: %v", xt, e)
		}
	}
	if _, left, e := run(t, m, 41, api.MaxFuel); e != api.OK || left != api.MaxFuel-1 {
		t.Errorf("all fuel: %d, %v", left, e)
	}
	if _, left, e := run(t, m, 41, 1); e != api.OK || left != 0 {
		t.Errorf("a step: %d, %v", left, e)
	}
}

// nested: the desk with so many colon words, each of which runs the one ahead by a text in which it is called @; the first one does the last text.
func nested(t *testing.T, n int, by, last string) api.Machine {
	m := known(t, desk(), "w1 "+last)
	for i := 2; i <= n; i++ {
		m = known(t, m, "w"+strconv.Itoa(i)+" "+strings.ReplaceAll(by, "@", "w"+strconv.Itoa(i-1)))
	}
	return m
}

// P11.1: MaxDepth colon words may be open, one more is ErrRet; nothing else counts.
func TestDepth(t *testing.T) {
	for _, by := range []string{"@", "'@ execute", "'@ catch throw", "'@ to:d d", "'@ 'execute 'execute execute", "'@ 'catch execute throw"} {
		m := nested(t, api.MaxDepth+1, by, "k drop")
		if _, _, e := run(t, m, find(m, "w32"), plenty); e != api.OK {
			t.Errorf("%s, as deep as may be: %v", by, e)
		}
		_, _, e := run(t, m, find(m, "w33"), plenty)
		if n, _ := inner.Thrown(m, find(m, "w33"), plenty); e != api.ErrRet && (e != api.ErrThrow || n != uint32(api.ErrRet)) {
			t.Errorf("%s, one deeper: %v", by, e)
		}
		leaves(t, m, "5 0 do 'w32 catch drop 'w31 catch drop loop 5", 5)
	}
	// With as many open as may be, other kinds of words are run still, and what is refused is caught.
	leaves(t, nested(t, api.MaxDepth-1, "@", "k v d"), "w31", 7, 5, 5)
	leaves(t, nested(t, api.MaxDepth-1, "@", "'me catch 'k catch"), "w31", uint32(api.ErrRet), 7, 0)
	leaves(t, nested(t, api.MaxDepth-1, "@", "4 'me 'execute catch"), "w31", 4, 0, uint32(api.ErrRet))
	leaves(t, nested(t, api.MaxDepth-1, "@", "11 2 3 $call-method 11 2 1 '$call-method catch"), "w31", 77, 0, 0, 0, uint32(api.ErrRet))
	// What is over is open no more.
	leaves(t, nested(t, api.MaxDepth-1, "@ @ drop", "k"), "w2 w2", 7, 7)
	leaves(t, nested(t, api.MaxDepth, "@", "me drop"), "w30 w30 w30")
	m := known(t, desk(), "self self")
	for fuel, want := range map[int]api.Errno{64: api.ErrFuel, 65: api.ErrRet, 66: api.ErrRet, api.MaxFuel: api.ErrRet} {
		if _, _, e := run(t, m, find(m, "self"), fuel); e != want {
			t.Errorf("itself with %d steps: %v", fuel, e)
		}
	}
	m = known(t, desk(), "gone exit gone", "over 1 if exit then over")
	leaves(t, m, "100 0 do gone over loop 3", 3)
}

// laid: a text that lays n cells on the return stack, does what is in between, and takes them off.
func laid(n int, text string) string {
	c := strconv.Itoa(n)
	return c + " begin dup >r 1 - dup 0= until drop " + text + " " + c + " begin r> drop 1 - dup 0= until drop"
}

// P11.1: the return stack has MaxRet cells at most, one more is ErrRet.
func TestReturnStackIsFull(t *testing.T) {
	for _, c := range []struct {
		n    int
		text string
		want api.Errno
	}{
		{64, "", api.OK}, {65, "", api.ErrRet}, {63, "1 >r r> drop", api.OK}, {64, "1 >r r> drop", api.ErrRet}, {64, ">r", api.ErrUnder},
		{62, "2 1 do loop", api.OK}, {63, "2 1 do loop", api.ErrRet}, {64, "2 1 do loop", api.ErrRet}, {63, "1 do loop", api.ErrUnder}, {62, "2 1 ?do loop", api.OK}, {63, "2 1 ?do loop", api.ErrRet},
		{63, "1 1 ?do loop", api.OK}, {64, "1 1 ?do loop", api.OK}, {64, "r@ i j 2drop drop", api.OK}, {62, "9 0 do 2 +loop", api.OK}, {60, "in", api.OK}, {61, "in", api.ErrRet},
		{62, "9 0 do i 3 = if leave then loop", api.OK},
	} {
		m := known(t, desk(), "in 1 >r 1 >r 2 1 do loop unloop")
		errs(t, m, laid(c.n, c.text), c.want)
		// Caught, the cells below count as well.
		m = known(t, m, "it "+laid(c.n-10, c.text))
		leaves(t, m, laid(10, "'it catch"), uint32(c.want))
	}
}

// P11.1: the console takes MaxOut bytes, one more is ErrOut, and nothing of it is shown.
func TestOutIsFull(t *testing.T) {
	for _, c := range []struct {
		name string
		in   []uint32
		size int
	}{
		{"emit", cells('a'), 1}, {"cr", nil, 1}, {"type", cells(8, 3), 3}, {"type", cells(8, 0), 0}, {"u.", cells(math.MaxUint32), 11}, {".", cells(minus(12)), 4}, {".", cells(0), 2},
	} {
		for free := range 13 {
			m := holding(with(func(m *api.Machine) { m.Out = strings.Repeat("x", api.MaxOut-free) }), c.in...)
			if free < c.size {
				fails(t, m, find(m, c.name), api.ErrOut)
			} else if y, _, e := run(t, m, find(m, c.name), 9); e != api.OK || len(y.Out) != api.MaxOut-free+c.size || len(y.Stack) != 0 {
				t.Errorf("%s with room for %d: %d bytes, %v", c.name, free, len(y.Out), e)
			}
		}
	}
	errs(t, desk(), "begin 65 emit again", api.ErrOut)
}

// P11.1: new memory needs just as much room as it has bytes, from a multiple of 4 on.
func TestMemoryIsFull(t *testing.T) {
	for _, c := range []struct {
		name string
		in   []uint32
		size int
	}{
		{"alloc-mem", cells(9), 9}, {"alloc-mem", cells(0), 0}, {"encode-int", cells(7), 4}, {"encode-string", cells(8, 3), 4}, {"encode-string", cells(8, 0), 1},
		{"encode+", cells(8, 3, 4, 4), 7}, {"encode+", cells(8, 3, 11, 4), -100}, {"get-my-property", cells(8, 3), 3}, {"get-my-property", cells(24, 1), 0}, {"get-my-property", cells(15, 2), -100},
	} {
		for free := range 14 {
			m := atWork(desk(), disk)
			m.Mem = append(m.Mem, make([]byte, api.MaxMem-free-deskSize)...)
			m = holding(m, c.in...)
			// A place up to a multiple of 4 is passed over.
			if free/4*4 < c.size {
				fails(t, m, find(m, c.name), api.ErrRoom)
				continue
			}
			want := len(m.Mem)
			if c.size >= 0 {
				want = api.MaxMem - free/4*4 + c.size
			}
			if y, _, e := run(t, m, find(m, c.name), 9); e != api.OK || len(y.Mem) != want {
				t.Errorf("%s with room for %d: %d bytes, %v", c.name, free, len(y.Mem), e)
			}
		}
	}
}

// P11.1: of a unit address MaxUnit numbers are taken, of a property MaxData bytes, of a name MaxName.
func TestDevicesAtTheirLimits(t *testing.T) {
	m := holding(desk(), 9, 8, 7, 6, 5, 4, atReg, 3)
	if y, _, e := run(t, m, find(m, "new-device"), 9); e != api.OK || !slices.Equal(y.Stack, cells(9)) || !slices.Equal(y.Tree[4].Unit, cells(8, 7, 6, 5)) {
		t.Errorf("4 numbers: %v, %v, %v", y.Stack, y.Tree, e)
	}
	fails(t, holding(desk(), 9, 8, 7, 6, 5, 5, atReg, 3), find(m, "new-device"), api.ErrArg)
	m = with(func(m *api.Machine) { m.Mem = []byte(strings.Repeat("a", 300)); m.Node = tty })
	for n, want := range map[uint32]api.Errno{256: api.OK, 257: api.ErrLong} {
		m.Stack = cells(0, n, 0, 31)
		if _, _, e := run(t, m, find(m, "property"), 9); e != want {
			t.Errorf("a property of %d bytes: %v", n, e)
		}
	}
	for n, want := range map[uint32]api.Errno{31: api.OK, 32: api.ErrArg} {
		m.Stack = cells(0, 0, 0, n)
		if _, _, e := run(t, m, find(m, "property"), 9); e != want {
			t.Errorf("a property with a name of %d bytes: %v", n, e)
		}
		m.Stack = cells(0, 0, n)
		if _, _, e := run(t, m, find(m, "new-device"), 9); e != want {
			t.Errorf("a device with a name of %d bytes: %v", n, e)
		}
	}
	for n, want := range map[uint32]api.Errno{255: api.OK, 256: api.ErrLong} {
		m.Stack = cells(0, n)
		if _, _, e := run(t, m, find(m, "encode-string"), 9); e != want {
			t.Errorf("a text of %d bytes: %v", n, e)
		}
	}
	// Two stretches come to as many bytes as there is room for.
	leaves(t, holding(m), "0 300 0 300 encode+", 300, 600)
}
