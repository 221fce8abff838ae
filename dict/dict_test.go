package dict_test

import (
	"bytes"
	"math"
	"slices"
	"strconv"
	"strings"
	"testing"

	"tinder/api"
	"tinder/dict"
	"tinder/tree"
)

// first tells the words that every dictionary begins with, each with its FCode number.
const first = `i 19 j 1a execute 1d + 1e - 1f * 20 / 21 mod 22 and 23 or 24 xor 25 invert 26 lshift 27 rshift 28 >>a 29
/mod 2a u/mod 2b negate 2c abs 2d min 2e max 2f >r 30 r> 31 r@ 32 0= 34 0<> 35 0< 36 0<= 37 0> 38 0>= 39 < 3a > 3b
= 3c <> 3d u> 3e u<= 3f u< 40 u>= 41 >= 42 <= 43 drop 46 dup 47 over 48 swap 49 rot 4a -rot 4b tuck 4c nip 4d
pick 4e roll 4f ?dup 50 depth 51 2drop 52 2dup 53 2over 54 2swap 55 2rot 56 2/ 57 u2/ 58 2* 59 +! 6c @ 6d w@ 6f
c@ 71 ! 72 w! 74 c! 75 move 78 fill 79 comp 7a lbsplit 7e bljoin 7f wbflip 80 upc 81 lcc 82 unloop 89 alloc-mem 8b
emit 8f type 90 cr 92 u. 9b . 9d base! a0 -1 a4 0 a5 1 a6 2 a7 3 a8 bl a9 here ad um* d4 um/mod d5 d+ d8 d- d9
property 110 encode-int 111 encode+ 112 encode-string 114 new-device 11f finish-device 127 sm/rem 1d5 my-self 203
my-parent 20a $call-method 20e catch 217 throw 218 get-my-property 21a decode-int 21b decode-string 21c
delete-property 21e fm/mod 2d5`

// longest is a name that is just as long as a name may be.
const longest = "abcdefghijklmnopqrstuvwxyz-0123"

func firstWords(t *testing.T) []api.Prim {
	var l []api.Prim
	f := strings.Fields(first)
	for i := 0; i < len(f); i += 2 {
		code, err := strconv.ParseInt(f[i+1], 16, 64)
		if err != nil {
			t.Fatal(err)
		}
		l = append(l, api.Prim{Name: f[i], Code: int(code)})
	}
	return l
}

func alikeWord(a, b api.Word) bool {
	return a.Name == b.Name && a.Node == b.Node && a.Kind == b.Kind && a.N == b.N && slices.Equal(a.Code, b.Code)
}

func alikeProp(a, b api.Prop) bool { return a.Name == b.Name && bytes.Equal(a.Data, b.Data) }

func alikeNode(a, b api.Node) bool {
	return a.Name == b.Name && slices.Equal(a.Unit, b.Unit) && a.Parent == b.Parent &&
		slices.EqualFunc(a.Props, b.Props, alikeProp) && slices.Equal(a.Cells, b.Cells)
}

func alikeInst(a, b api.Inst) bool {
	return a.Node == b.Node && a.Parent == b.Parent && a.Args == b.Args && slices.Equal(a.Cells, b.Cells)
}

// alike: the same machine, its lists nil or empty.
func alike(a, b api.Machine) bool {
	return slices.Equal(a.Stack, b.Stack) && bytes.Equal(a.Mem, b.Mem) &&
		slices.EqualFunc(a.Words, b.Words, alikeWord) && slices.Equal(a.Codes, b.Codes) && a.Base == b.Base &&
		slices.EqualFunc(a.Tree, b.Tree, alikeNode) && a.Node == b.Node &&
		slices.EqualFunc(a.Insts, b.Insts, alikeInst) && a.Self == b.Self && a.Out == b.Out
}

// devices: a tree whose devices have 1, 0, 2 and 0 cells; made anew each time.
func devices() []api.Node {
	return []api.Node{
		{Parent: -1, Cells: []uint32{5}},
		{Name: "bus", Unit: []uint32{31, 0}, Parent: 0, Props: []api.Prop{{Name: "reg", Data: []byte{1, 2}}, {Name: "a"}}},
		{Name: "disk", Unit: []uint32{1}, Parent: 1, Cells: []uint32{1, 1<<32 - 1}},
		{Name: "tty", Parent: 0, Props: []api.Prop{{Name: "name", Data: []byte{0}}}},
	}
}

// ops: an instruction of each kind, with the greatest number that it may have among so many words.
func ops(words uint32) []api.Op {
	return []api.Op{
		{Kind: api.OLit, N: 1<<32 - 1}, {Kind: api.OCall, N: words - 1}, {Kind: api.OBranch, N: 13}, {Kind: api.OZero, N: 13},
		{Kind: api.ODo, N: 13}, {Kind: api.OQDo, N: 13}, {Kind: api.OLoop, N: 13}, {Kind: api.OPlus, N: 13},
		{Kind: api.OLeave, N: 13}, {Kind: api.OOf, N: 13}, {Kind: api.ODrop}, {Kind: api.OExit}, {Kind: api.OTo, N: words - 1},
	}
}

// The words that whole has behind the first ones.
const (
	square   = api.Prims + iota // sq, none's
	seven                       // k, none's
	value                       // v, the disk's
	address                     // var, none's
	deferred                    // d, none's, itself
	cell                        // c, the disk's
	nameless                    // the bus's
	dup                         // dup, the root's
	diskSq                      // sq, the disk's
	words                       // how many there are
)

// whole: a machine with some of everything; made anew each time.
func whole() api.Machine {
	m := api.Machine{
		Stack: []uint32{1, 2, 1<<32 - 1}, Mem: []byte{9, 8, 7}, Words: dict.New().Words, Codes: []int{-1, nameless, 0, diskSq},
		Base: 10, Tree: devices(), Node: 3, Self: 0, Out: "hi\x00\xff",
		Insts: []api.Inst{
			{Node: 2, Parent: 3, Args: "a,1", Cells: []uint32{3, 4}}, {Node: -1, Parent: -1},
			{Node: 0, Parent: -1, Cells: []uint32{6}}, {Node: 1, Parent: 2}, {Node: 0, Parent: -1, Cells: []uint32{7}},
		},
	}
	m.Words = append(m.Words,
		api.Word{Name: "sq", Node: -1, Kind: api.WColon, Code: []api.Op{{Kind: api.OCall, N: 41}, {Kind: api.OCall, N: 5}}},
		api.Word{Name: "k", Node: -1, Kind: api.WConst, N: 7},
		api.Word{Name: "v", Node: 2, Kind: api.WValue, N: 1<<32 - 1},
		api.Word{Name: "var", Node: -1, Kind: api.WVar, N: 1 << 31},
		api.Word{Name: "d", Node: -1, Kind: api.WDefer, N: deferred},
		api.Word{Name: "c", Node: 2, Kind: api.WInst, N: 1},
		api.Word{Node: 1, Kind: api.WColon, Code: ops(words)},
		api.Word{Name: "dup", Node: 0, Kind: api.WConst},
		api.Word{Name: "sq", Node: 2, Kind: api.WColon},
	)
	return m
}

// filled: whole with so many words.
func filled(n int) api.Machine {
	m := whole()
	for len(m.Words) < n {
		m.Words = append(m.Words, api.Word{Name: "x", Node: -1, Kind: api.WConst, N: uint32(len(m.Words))})
	}
	return m
}

// with: whole, changed.
func with(do func(m *api.Machine)) api.Machine {
	m := whole()
	do(&m)
	return m
}

// withWord: whole with one of its words behind the first ones changed.
func withWord(n int, do func(w *api.Word)) api.Machine {
	return with(func(m *api.Machine) { do(&m.Words[n]) })
}

// withInst: whole with one of its instances changed.
func withInst(n int, do func(x *api.Inst)) api.Machine {
	return with(func(m *api.Machine) { do(&m.Insts[n]) })
}

// goodMachines: machines that are formed, at the edges.
func goodMachines() map[string]api.Machine {
	return map[string]api.Machine{
		"new":                  dict.New(),
		"whole":                whole(),
		"a full stack":         with(func(m *api.Machine) { m.Stack = make([]uint32, api.MaxStack) }),
		"an empty stack":       with(func(m *api.Machine) { m.Stack = nil }),
		"a full memory":        with(func(m *api.Machine) { m.Mem = make([]byte, api.MaxMem) }),
		"no memory":            with(func(m *api.Machine) { m.Mem = nil }),
		"the most words":       filled(api.MaxWords),
		"the most codes":       with(func(m *api.Machine) { m.Codes = make([]int, 2048) }),
		"codes of none":        with(func(m *api.Machine) { m.Codes = []int{-1, -1} }),
		"the last word's code": with(func(m *api.Machine) { m.Codes = []int{words - 1} }),
		"base 2":               with(func(m *api.Machine) { m.Base = 2 }),
		"base 36":              with(func(m *api.Machine) { m.Base = 36 }),
		"no device at work":    with(func(m *api.Machine) { m.Node = -1 }),
		"the root at work":     with(func(m *api.Machine) { m.Node = 0 }),
		"no instance at work":  with(func(m *api.Machine) { m.Self = -1 }),
		"the last at work":     with(func(m *api.Machine) { m.Self = 4 }),
		"no instances":         with(func(m *api.Machine) { m.Insts, m.Self = nil, -1 }),
		"a full console":       with(func(m *api.Machine) { m.Out = strings.Repeat("\xff", api.MaxOut) }),
		"the most instances": with(func(m *api.Machine) {
			for i := len(m.Insts); i < api.MaxInsts; i++ {
				m.Insts = append(m.Insts, api.Inst{Node: 1, Parent: i - 1})
			}
		}),
		"a long row of parents": with(func(m *api.Machine) {
			m.Insts, m.Self = nil, 0
			for i := range api.MaxInsts {
				m.Insts = append(m.Insts, api.Inst{Node: 3, Parent: i + 1})
			}
			m.Insts[api.MaxInsts-1].Parent = -1
		}),
		"all of them free": with(func(m *api.Machine) {
			m.Insts, m.Self = slices.Repeat([]api.Inst{{Node: -1, Parent: -1, Cells: []uint32{}}}, api.MaxInsts), -1
		}),
		"long arguments":        withInst(0, func(x *api.Inst) { x.Args = strings.Repeat("\x00", api.MaxPath) }),
		"odd arguments":         withInst(0, func(x *api.Inst) { x.Args = `:@\ A.0` + "\xff" }),
		"a name of one byte":    withWord(square, func(w *api.Word) { w.Name = "~" }),
		"a name of other bytes": withWord(square, func(w *api.Word) { w.Name = `/\:[]@!"{` }),
		"the longest name":      withWord(square, func(w *api.Word) { w.Name = longest }),
		"no name":               withWord(square, func(w *api.Word) { w.Name = "" }),
		"another word's name":   withWord(square, func(w *api.Word) { w.Name = "fm/mod" }),
		"code of none":          withWord(square, func(w *api.Word) { w.Code = []api.Op{} }),
		"the most code":         withWord(square, func(w *api.Word) { w.Code = make([]api.Op, api.MaxCode); fill(w.Code, api.OLit) }),
		"a constant's no code":  withWord(seven, func(w *api.Word) { w.Code = []api.Op{} }),
		"a device's constant":   withWord(seven, func(w *api.Word) { w.Node = 3 }),
		"deferred to the first": withWord(deferred, func(w *api.Word) { w.N = 0 }),
		"deferred to the last":  withWord(deferred, func(w *api.Word) { w.N = words - 1 }),
		"the root's cell":       withWord(cell, func(w *api.Word) { w.Node, w.N = 0, 0 }),
		"a prim's no code":      withWord(0, func(w *api.Word) { w.Code = []api.Op{} }),
	}
}

func fill(l []api.Op, kind int) {
	for i := range l {
		l[i].Kind = kind
	}
}

// badMachines: machines that are not formed, each for one cause alone.
func badMachines() map[string]api.Machine {
	all := map[string]api.Machine{
		"the zero machine":    {},
		"no words":            with(func(m *api.Machine) { m.Words, m.Codes = nil, nil }),
		"a stack too full":    with(func(m *api.Machine) { m.Stack = make([]uint32, api.MaxStack+1) }),
		"a memory too great":  with(func(m *api.Machine) { m.Mem = make([]byte, api.MaxMem+1) }),
		"one word too many":   filled(api.MaxWords + 1),
		"many words too many": filled(2 * api.MaxWords),
		"one code too many":   with(func(m *api.Machine) { m.Codes = make([]int, 2049) }),
		"a code of no word":   with(func(m *api.Machine) { m.Codes[2] = words }),
		"a code of -2":        with(func(m *api.Machine) { m.Codes[0] = -2 }),
		"a code far below":    with(func(m *api.Machine) { m.Codes[0] = math.MinInt }),
		"a code far above":    with(func(m *api.Machine) { m.Codes[3] = math.MaxInt }),
		"base 0":              with(func(m *api.Machine) { m.Base = 0 }),
		"base 1":              with(func(m *api.Machine) { m.Base = 1 }),
		"base 37":             with(func(m *api.Machine) { m.Base = 37 }),
		"a great base":        with(func(m *api.Machine) { m.Base = 1<<32 - 1 }),
		"no tree":             with(func(m *api.Machine) { m.Tree, m.Node, m.Insts, m.Self, m.Words = nil, -1, nil, -1, m.Words[:square] }),
		"a device's name":     with(func(m *api.Machine) { m.Tree[3].Name = "T" }),
		"a device's parent":   with(func(m *api.Machine) { m.Tree[3].Parent = 3 }),
		"a device's property": with(func(m *api.Machine) { m.Tree[1].Props[1].Name = "reg" }),
		"a device's cells":    with(func(m *api.Machine) { m.Tree[3].Cells = make([]uint32, api.MaxCells+1) }),
		"no device at work":   with(func(m *api.Machine) { m.Node = 4 }),
		"a device of -2":      with(func(m *api.Machine) { m.Node = -2 }),
		"a device far below":  with(func(m *api.Machine) { m.Node = math.MinInt }),
		"a device far above":  with(func(m *api.Machine) { m.Node = math.MaxInt }),
		"a free one at work":  with(func(m *api.Machine) { m.Self = 1 }),
		"none at work":        with(func(m *api.Machine) { m.Self = 5 }),
		"-2 at work":          with(func(m *api.Machine) { m.Self = -2 }),
		"far below at work":   with(func(m *api.Machine) { m.Self = math.MinInt }),
		"far above at work":   with(func(m *api.Machine) { m.Self = math.MaxInt }),
		"a console too full":  with(func(m *api.Machine) { m.Out = strings.Repeat("a", api.MaxOut+1) }),
		"the great console":   with(func(m *api.Machine) { m.Out = strings.Repeat("a", 9*api.MaxOut) }),
	}
	for _, l := range []map[string]api.Machine{badFirst(), badWords(), badInsts()} {
		for name, m := range l {
			if _, is := all[name]; is {
				panic("twice: " + name)
			}
			all[name] = m
		}
	}
	return all
}

// badFirst: machines whose first words are not those that they must be.
func badFirst() map[string]api.Machine {
	all := map[string]api.Machine{
		"the first word missing": with(func(m *api.Machine) { m.Words, m.Codes = m.Words[1:square], nil }),
		"one within missing":     with(func(m *api.Machine) { m.Words, m.Codes = slices.Delete(m.Words[:square], 41, 42), nil }),
		"the last missing":       with(func(m *api.Machine) { m.Words, m.Codes = m.Words[:square-1], nil }),
		"another in its place":   with(func(m *api.Machine) { m.Words[110] = m.Words[seven] }),
		"two in wrong order":     with(func(m *api.Machine) { m.Words[3], m.Words[4] = m.Words[4], m.Words[3] }),
	}
	for _, n := range []int{0, 41, square - 1} {
		at := strconv.Itoa(n)
		all[at+" renamed"] = withWord(n, func(w *api.Word) { w.Name += "x" })
		all[at+" nameless"] = withWord(n, func(w *api.Word) { w.Name = "" })
		all[at+" of kind 0"] = withWord(n, func(w *api.Word) { w.Kind = 0 })
		all[at+" a constant"] = withWord(n, func(w *api.Word) { w.Kind = api.WConst })
		all[at+" with the next N"] = withWord(n, func(w *api.Word) { w.N++ })
		all[at+" without N"] = withWord(n, func(w *api.Word) { w.N = 0 })
		all[at+" the root's"] = withWord(n, func(w *api.Word) { w.Node = 0 })
		all[at+" of -2"] = withWord(n, func(w *api.Word) { w.Node = -2 })
		all[at+" with code"] = withWord(n, func(w *api.Word) { w.Code = []api.Op{{Kind: api.OExit}} })
	}
	return all
}

// badWords: machines with a word behind the first ones that may not be there.
func badWords() map[string]api.Machine {
	all := map[string]api.Machine{
		"a second dup that is a prim": with(func(m *api.Machine) { m.Words[square] = m.Words[41] }),
		"a colon word with a number":  withWord(square, func(w *api.Word) { w.N = 1 }),
		"with a great number":         withWord(square, func(w *api.Word) { w.N = 1<<32 - 1 }),
		"code too long":               withWord(square, func(w *api.Word) { w.Code = make([]api.Op, api.MaxCode+1); fill(w.Code, api.OLit) }),
		"a call of no word":           withWord(square, func(w *api.Word) { w.Code[0].N = words }),
		"a call far above":            withWord(square, func(w *api.Word) { w.Code[0].N = 1<<32 - 1 }),
		"a branch too far":            withWord(square, func(w *api.Word) { w.Code[1] = api.Op{Kind: api.OBranch, N: 3} }),
		"an instruction of kind 0":    withWord(square, func(w *api.Word) { w.Code[1].Kind = 0 }),
		"an instruction of kind 14":   withWord(square, func(w *api.Word) { w.Code[1].Kind = 14 }),
		"deferred to no word":         withWord(deferred, func(w *api.Word) { w.N = words }),
		"deferred far above":          withWord(deferred, func(w *api.Word) { w.N = 1<<32 - 1 }),
		"a cell too far":              withWord(cell, func(w *api.Word) { w.N = 2 }),
		"a cell far above":            withWord(cell, func(w *api.Word) { w.N = 1<<32 - 1 }),
		"a cell of none's":            withWord(cell, func(w *api.Word) { w.Node, w.N = -1, 0 }),
		"a cell of the bus":           withWord(cell, func(w *api.Word) { w.Node, w.N = 1, 0 }),
		"the last word's kind":        withWord(words-1, func(w *api.Word) { w.Kind = 8 }),
	}
	for n, what := range map[int]string{seven: "constant", value: "value", address: "variable", deferred: "deferred", cell: "cell"} {
		all["a "+what+" with code"] = withWord(n, func(w *api.Word) { w.Code = []api.Op{{Kind: api.OExit}} })
	}
	for n := square; n < words; n++ {
		at := strconv.Itoa(n)
		for _, kind := range []int{math.MinInt, -1, 0, api.WPrim, 8, math.MaxInt} {
			all[at+" of kind "+strconv.Itoa(kind)] = withWord(n, func(w *api.Word) { w.Kind = kind })
		}
		for _, node := range []int{math.MinInt, -2, 4, math.MaxInt} {
			all[at+" of device "+strconv.Itoa(node)] = withWord(n, func(w *api.Word) { w.Node = node })
		}
		for _, name := range []string{"A", "aZ", "a b", "\x7f", "\x20", "\x00", "a\xff", "é", longest + "4"} {
			all[at+" named "+name] = withWord(n, func(w *api.Word) { w.Name = name })
		}
	}
	return all
}

// badInsts: machines with an instance that is neither free nor alive.
func badInsts() map[string]api.Machine {
	all := map[string]api.Machine{
		"one instance too many": with(func(m *api.Machine) {
			m.Insts = append(m.Insts, slices.Repeat([]api.Inst{{Node: -1, Parent: -1}}, api.MaxInsts+1-len(m.Insts))...)
		}),
		"a free one with a parent":    withInst(1, func(x *api.Inst) { x.Parent = 2 }),
		"a free one with parent 0":    withInst(1, func(x *api.Inst) { x.Parent = 0 }),
		"a free one with parent -2":   withInst(1, func(x *api.Inst) { x.Parent = -2 }),
		"a free one with arguments":   withInst(1, func(x *api.Inst) { x.Args = "a" }),
		"a free one with cells":       withInst(1, func(x *api.Inst) { x.Cells = []uint32{0} }),
		"the zero instance":           withInst(1, func(x *api.Inst) { *x = api.Inst{} }),
		"one of no device":            withInst(3, func(x *api.Inst) { x.Node = 4 }),
		"one of -2":                   withInst(3, func(x *api.Inst) { x.Node = -2 }),
		"one far below":               withInst(3, func(x *api.Inst) { x.Node = math.MinInt }),
		"one far above":               withInst(3, func(x *api.Inst) { x.Node = math.MaxInt }),
		"a cell too many":             withInst(0, func(x *api.Inst) { x.Cells = append(x.Cells, 0) }),
		"a cell too few":              withInst(0, func(x *api.Inst) { x.Cells = x.Cells[:1] }),
		"no cells":                    withInst(0, func(x *api.Inst) { x.Cells = nil }),
		"a cell where none may be":    withInst(3, func(x *api.Inst) { x.Cells = []uint32{0} }),
		"a slash":                     withInst(0, func(x *api.Inst) { x.Args = "/" }),
		"a slash at last":             withInst(0, func(x *api.Inst) { x.Args = "abc/" }),
		"arguments too long":          withInst(0, func(x *api.Inst) { x.Args = strings.Repeat("a", api.MaxPath+1) }),
		"a free parent":               withInst(3, func(x *api.Inst) { x.Parent = 1 }),
		"its own parent":              withInst(2, func(x *api.Inst) { x.Parent = 2 }),
		"a parent that isn't there":   withInst(2, func(x *api.Inst) { x.Parent = 5 }),
		"a parent of -2":              withInst(2, func(x *api.Inst) { x.Parent = -2 }),
		"a parent far below":          withInst(2, func(x *api.Inst) { x.Parent = math.MinInt }),
		"a parent far above":          withInst(2, func(x *api.Inst) { x.Parent = math.MaxInt }),
		"two in a circle":             withInst(2, func(x *api.Inst) { x.Parent = 3 }),
		"three in a circle":           withInst(2, func(x *api.Inst) { x.Parent = 0 }),
		"one that leads to a circle":  with(func(m *api.Machine) { m.Insts[2].Parent, m.Insts[4].Parent = 4, 2 }),
		"the last one's parent":       withInst(4, func(x *api.Inst) { x.Parent = 1 }),
		"the last one's own circle":   withInst(4, func(x *api.Inst) { x.Parent = 4 }),
		"arguments of the last, long": withInst(4, func(x *api.Inst) { x.Args = strings.Repeat("a", 9*api.MaxPath) }),
	}
	all["all of them in a circle"] = with(func(m *api.Machine) {
		m.Insts, m.Self = nil, 0
		for i := range api.MaxInsts {
			m.Insts = append(m.Insts, api.Inst{Node: 3, Parent: (i + 1) % api.MaxInsts})
		}
	})
	return all
}

// isNone: is it what stands beside an error?
func isNone(m api.Machine) bool { return alike(m, api.Machine{}) }

// P9.1: Prims are the words that the document lists, in its order.
func TestPrims(t *testing.T) {
	if got, want := dict.Prims(), firstWords(t); !slices.Equal(got, want) || len(want) != api.Prims {
		t.Errorf("%v; want %v", got, want)
	}
}

// P9.1: New has these words, the base 16, the root, and nothing else.
func TestNew(t *testing.T) {
	want := api.Machine{Base: 16, Tree: tree.New(), Node: -1, Self: -1}
	for _, p := range firstWords(t) {
		want.Words = append(want.Words, api.Word{Name: p.Name, Node: -1, Kind: api.WPrim, N: uint32(p.Code)})
	}
	if got := dict.New(); !alike(got, want) {
		t.Errorf("%v; want %v", got, want)
	}
}

// P9.1: the examples of the chapter.
func TestExamples(t *testing.T) {
	if n, ok := dict.Find(dict.New(), "dup"); n != 41 || !ok {
		t.Errorf("Find dup: %d, %v", n, ok)
	}
	if n, ok := dict.Code(dict.New(), 71); n != 41 || !ok {
		t.Errorf("Code 71: %d, %v", n, ok)
	}
	if _, n, e := dict.Define(dict.New(), api.Word{Name: "x", Node: -1, Kind: api.WConst}); n != 111 || e != api.OK {
		t.Errorf("Define x: %d, %v", n, e)
	}
	if m, e := dict.Bind(dict.New(), 2049, 0); !slices.Equal(m.Codes, []int{-1, 0}) || e != api.OK {
		t.Errorf("Bind 2049: %v, %v", m.Codes, e)
	}
}

// P9.1: Copy is the same machine, of whatever kind.
func TestCopy(t *testing.T) {
	for _, l := range []map[string]api.Machine{goodMachines(), badMachines()} {
		for name, m := range l {
			if got := dict.Copy(m); !alike(got, m) {
				t.Errorf("%s: %v", name, got)
			}
		}
	}
}

// P9.1: machines at the edges are formed.
func TestFormed(t *testing.T) {
	for name, m := range goodMachines() {
		if !dict.Formed(m) {
			t.Errorf("%s isn't formed", name)
		}
	}
}

// P9.1: machines with one thing wrong are not formed; nothing is defined or bound in them, whatever else is wrong.
func TestNotFormed(t *testing.T) {
	for name, bad := range badMachines() {
		if dict.Formed(bad) {
			t.Errorf("%s is formed", name)
		}
		for _, w := range []api.Word{{Name: "x", Node: -1, Kind: api.WConst}, {}} {
			if m, n, e := dict.Define(bad, w); !isNone(m) || n != 0 || e != api.ErrArg {
				t.Errorf("%s: Define: %v, %d, %v", name, m, n, e)
			}
		}
		for _, code := range []int{2048, 2047, 4096} {
			for _, xt := range []int{0, -1, math.MaxInt} {
				if m, e := dict.Bind(bad, code, xt); !isNone(m) || e != api.ErrArg {
					t.Errorf("%s: Bind %d, %d: %v, %v", name, code, xt, m, e)
				}
			}
		}
	}
}

// P9.1: a name has 1 to MaxName bytes from 33 to 126, none of them a great letter, wherever it stands.
func TestNamed(t *testing.T) {
	for c := range 256 {
		want := c >= 33 && c <= 126 && (c < 'A' || c > 'Z')
		b := string([]byte{byte(c)})
		for _, s := range []string{b, "a" + b, b + "a", "a" + b + "a", longest[:30] + b} {
			if got := dict.Named(s); got != want {
				t.Errorf("%q: %v; want %v", s, got, want)
			}
		}
	}
	for n := range 3 * api.MaxName {
		if got, want := dict.Named(strings.Repeat("~", n)), n >= 1 && n <= api.MaxName; got != want {
			t.Errorf("of %d bytes: %v; want %v", n, got, want)
		}
	}
	for s, want := range map[string]bool{longest: true, longest + "4": false, "é": false, "aé": false, "Dup": false, "": false, "a b": false} {
		if got := dict.Named(s); got != want {
			t.Errorf("%q: %v; want %v", s, got, want)
		}
	}
	for _, p := range firstWords(t) {
		if !dict.Named(p.Name) {
			t.Errorf("%q is no name", p.Name)
		}
	}
}

// P9.1: an instruction is sound by its kind, whatever stands around it.
func TestSound(t *testing.T) {
	numbers := []uint32{0, 1, 2, 3, 4, 110, 111, 112, 255, 256, 257, 1<<31 - 1, 1 << 31, 1<<32 - 2, 1<<32 - 1}
	counts := []int{math.MinInt, -1, 0, 1, 3, 111, 112, 640, 1 << 31, 1<<32 - 1, 1 << 32, 1<<32 + 1, math.MaxInt}
	kinds := []int{math.MinInt, -1<<32 + api.OLit, -1, 0, 14, 15, 256 + api.OLit, 1<<32 + api.OLit, math.MaxInt}
	for kind := api.OLit; kind <= api.OTo; kind++ {
		kinds = append(kinds, kind)
	}
	for _, kind := range kinds {
		for _, n := range numbers {
			for _, count := range counts {
				for at := range 3 {
					l := []api.Op{{Kind: api.OLit, N: 7}, {Kind: api.OExit}, {Kind: api.ODrop}}
					l[at] = api.Op{Kind: kind, N: n}
					if got, want := dict.Sound(l, count), sound(l[at], count, 3); got != want {
						t.Fatalf("%v of %d words: %v; want %v", l, count, got, want)
					}
				}
			}
		}
	}
}

// sound: the document's words on one instruction, kind by kind.
func sound(o api.Op, count, size int) bool {
	if o.Kind == api.OLit {
		return true
	}
	if o.Kind == api.OCall || o.Kind == api.OTo {
		return count > 0 && uint64(o.N) < uint64(count)
	}
	if o.Kind == api.ODrop || o.Kind == api.OExit {
		return o.N == 0
	}
	return o.Kind >= api.OBranch && o.Kind <= api.OOf && uint64(o.N) <= uint64(size)
}

// P9.1: instructions are at most MaxCode, a branch leads at most behind the last one.
func TestSoundSizes(t *testing.T) {
	for _, size := range []int{0, 1, 2, api.MaxCode - 1, api.MaxCode, api.MaxCode + 1, 4 * api.MaxCode} {
		l := make([]api.Op, size)
		fill(l, api.OLit)
		for _, count := range []int{-1, 0, 1, 640} {
			if got, want := dict.Sound(l, count), size <= api.MaxCode; got != want {
				t.Errorf("%d instructions of %d words: %v; want %v", size, count, got, want)
			}
		}
		if size == 0 || size > api.MaxCode {
			continue
		}
		for _, at := range []int{0, size - 1} {
			for kind := api.OBranch; kind <= api.OOf; kind++ {
				for n := size - 1; n <= size+1; n++ {
					l[at] = api.Op{Kind: kind, N: uint32(n)}
					if got, want := dict.Sound(l, 0), n <= size; got != want {
						t.Errorf("%d instructions, kind %d, %d: %v; want %v", size, kind, n, got, want)
					}
				}
			}
			l[at] = api.Op{Kind: api.OLit}
		}
	}
	if !dict.Sound(nil, 0) || !dict.Sound(nil, math.MinInt) || !dict.Sound([]api.Op{}, 1) {
		t.Error("no instructions are not sound")
	}
	for _, count := range []uint32{1, 111, 640} {
		if !dict.Sound(ops(count), int(count)) || dict.Sound(ops(count+1), int(count)) {
			t.Errorf("all kinds of %d words", count)
		}
	}
}

// P9.1: each of the first words is found by its name and by its FCode number, and no other number below 2048 is one.
func TestFirstAreFound(t *testing.T) {
	byCode := map[int]int{}
	m := dict.New()
	for n, p := range firstWords(t) {
		byCode[p.Code] = n
		if got, ok := dict.Find(m, p.Name); got != n || !ok {
			t.Errorf("Find %q: %d, %v", p.Name, got, ok)
		}
		if got, ok := dict.Method(m, 0, p.Name); got != 0 || ok {
			t.Errorf("Method %q: %d, %v", p.Name, got, ok)
		}
	}
	for code := -3; code < 2053; code++ {
		want, is := byCode[code]
		for name, m := range map[string]api.Machine{"new": m, "zero": {}, "a stack too full": {Stack: make([]uint32, 99), Words: whole().Words}} {
			if got, ok := dict.Code(m, code); got != want || ok != is {
				t.Errorf("%s: Code %x: %d, %v; want %d, %v", name, code, got, ok, want, is)
			}
		}
	}
}

// P9.1: Find tells the greatest number of a word of just that name, whosever it is, also in machines that are not formed.
func TestFind(t *testing.T) {
	odd := api.Machine{Words: []api.Word{
		{Name: "A b"}, {Name: ""}, {Name: "x", Node: math.MinInt, Kind: 99}, {Name: "A b", Node: -1}, {Name: "y", Node: 7}, {Name: ""},
	}}
	for _, x := range []struct {
		m    api.Machine
		name string
		n    int
		ok   bool
	}{
		{whole(), "sq", diskSq, true}, {whole(), "dup", dup, true}, {whole(), "k", seven, true}, {whole(), "v", value, true},
		{whole(), "c", cell, true}, {whole(), "i", 0, true}, {whole(), "fm/mod", 110, true}, {whole(), "", 0, false},
		{whole(), "SQ", 0, false}, {whole(), "s", 0, false}, {whole(), "sqx", 0, false}, {whole(), "sq ", 0, false},
		{whole(), "DUP", 0, false}, {whole(), "none", 0, false}, {api.Machine{}, "dup", 0, false}, {api.Machine{}, "", 0, false},
		{odd, "A b", 3, true}, {odd, "x", 2, true}, {odd, "y", 4, true}, {odd, "", 0, false}, {odd, "dup", 0, false},
		{filled(2 * api.MaxWords), "x", 2*api.MaxWords - 1, true}, {filled(2 * api.MaxWords), "dup", dup, true},
	} {
		if n, ok := dict.Find(x.m, x.name); n != x.n || ok != x.ok {
			t.Errorf("Find %q: %d, %v; want %d, %v", x.name, n, ok, x.n, x.ok)
		}
	}
}

// P9.1: Method tells the greatest number of a word of just that name and that device, also in machines that are not formed.
func TestMethod(t *testing.T) {
	odd := api.Machine{Words: []api.Word{
		{Name: "x", Node: 5}, {Name: "x", Node: -1}, {Name: "x", Node: 5, Kind: 99}, {Name: "x", Node: 6}, {Name: "", Node: 5},
		{Name: "y", Node: -2}, {Name: "Y", Node: math.MaxInt}, {Name: "y", Node: math.MinInt},
	}}
	for _, x := range []struct {
		m    api.Machine
		node int
		name string
		n    int
		ok   bool
	}{
		{whole(), 2, "sq", diskSq, true}, {whole(), 2, "v", value, true}, {whole(), 2, "c", cell, true}, {whole(), 0, "dup", dup, true},
		{whole(), 1, "", 0, false}, {whole(), 1, "sq", 0, false}, {whole(), 0, "sq", 0, false}, {whole(), -1, "sq", 0, false},
		{whole(), -1, "k", 0, false}, {whole(), -1, "dup", 0, false}, {whole(), 0, "i", 0, false}, {whole(), 2, "SQ", 0, false},
		{whole(), 4, "v", 0, false}, {whole(), math.MaxInt, "v", 0, false}, {whole(), math.MinInt, "v", 0, false},
		{odd, 5, "x", 2, true}, {odd, 6, "x", 3, true}, {odd, -1, "x", 0, false}, {odd, 5, "", 0, false}, {odd, -2, "y", 0, false},
		{odd, math.MaxInt, "Y", 6, true}, {odd, math.MinInt, "y", 0, false}, {odd, 5, "y", 0, false}, {api.Machine{}, 0, "dup", 0, false},
	} {
		if n, ok := dict.Method(x.m, x.node, x.name); n != x.n || ok != x.ok {
			t.Errorf("Method %d, %q: %d, %v; want %d, %v", x.node, x.name, n, ok, x.n, x.ok)
		}
	}
}

// goodWords: words that may stand behind those of a machine of so many words, over the devices of whole.
func goodWords(count uint32) []api.Word {
	l := make([]api.Op, api.MaxCode)
	fill(l, api.OZero)
	l[0].N = api.MaxCode
	return []api.Word{
		{Name: "x", Node: -1, Kind: api.WConst, N: 1<<32 - 1}, {Name: "dup", Node: 3, Kind: api.WValue}, {Node: -1, Kind: api.WVar, N: 9},
		{Name: longest, Node: 0, Kind: api.WVar}, {Name: "~", Node: -1, Kind: api.WColon}, {Name: "!", Node: 3, Kind: api.WColon, Code: l},
		{Name: "self", Node: 1, Kind: api.WColon, Code: []api.Op{{Kind: api.OCall, N: count}, {Kind: api.OTo, N: count}}},
		{Name: "all", Node: -1, Kind: api.WColon, Code: ops(count + 1)}, {Name: "me", Node: -1, Kind: api.WDefer, N: count},
		{Name: "first", Node: 2, Kind: api.WDefer}, {Name: "c", Node: 2, Kind: api.WInst, N: 1}, {Name: "r", Node: 0, Kind: api.WInst},
	}
}

// wrongWords: words that may not stand there.
func wrongWords(count uint32) []api.Word {
	l := make([]api.Op, api.MaxCode+1)
	fill(l, api.OLit)
	exit := []api.Op{{Kind: api.OExit}}
	return []api.Word{
		{}, {Name: "x", Node: -1}, {Name: "x", Node: -1, Kind: api.WPrim}, {Name: "dup", Node: -1, Kind: api.WPrim, N: 0x47},
		{Name: "x", Node: -1, Kind: 8}, {Name: "x", Node: -1, Kind: math.MinInt}, {Name: "x", Node: -1, Kind: math.MaxInt},
		{Name: "X", Node: -1, Kind: api.WConst}, {Name: "x ", Node: -1, Kind: api.WConst}, {Name: "\x7f", Node: -1, Kind: api.WConst},
		{Name: " ", Node: -1, Kind: api.WConst}, {Name: longest + "4", Node: -1, Kind: api.WConst},
		{Name: "x", Node: 4, Kind: api.WConst}, {Name: "x", Node: -2, Kind: api.WConst}, {Name: "x", Node: math.MinInt, Kind: api.WVar},
		{Name: "x", Node: math.MaxInt, Kind: api.WInst}, {Name: "x", Node: -1, Kind: api.WColon, N: 1},
		{Name: "x", Node: -1, Kind: api.WColon, Code: l}, {Name: "x", Node: -1, Kind: api.WColon, Code: []api.Op{{}}},
		{Name: "x", Node: -1, Kind: api.WColon, Code: []api.Op{{Kind: 14}}},
		{Name: "x", Node: -1, Kind: api.WColon, Code: []api.Op{{Kind: api.OCall, N: count + 1}}},
		{Name: "x", Node: -1, Kind: api.WColon, Code: []api.Op{{Kind: api.OTo, N: count + 1}}},
		{Name: "x", Node: -1, Kind: api.WColon, Code: []api.Op{{Kind: api.OBranch, N: 2}}},
		{Name: "x", Node: -1, Kind: api.WColon, Code: []api.Op{{Kind: api.OExit, N: 1}}},
		{Name: "x", Node: -1, Kind: api.WConst, Code: exit}, {Name: "x", Node: -1, Kind: api.WValue, Code: exit},
		{Name: "x", Node: -1, Kind: api.WVar, Code: exit}, {Name: "x", Node: -1, Kind: api.WDefer, Code: exit},
		{Name: "x", Node: 2, Kind: api.WInst, Code: exit}, {Name: "x", Node: -1, Kind: api.WDefer, N: count + 1},
		{Name: "x", Node: -1, Kind: api.WDefer, N: 1<<32 - 1}, {Name: "x", Node: -1, Kind: api.WInst},
		{Name: "x", Node: 1, Kind: api.WInst}, {Name: "x", Node: 2, Kind: api.WInst, N: 2}, {Name: "x", Node: 2, Kind: api.WInst, N: 1<<32 - 1},
	}
}

// P9.1: Define puts a word that may stand there behind the others; else it answers ErrArg, and ErrMany where there is no room alone.
func TestDefine(t *testing.T) {
	for _, count := range []int{words, words + 1, api.MaxWords - 1, api.MaxWords} {
		before := filled(count)
		for _, w := range goodWords(uint32(count)) {
			want := twin(before)
			want.Words = append(want.Words, w)
			m, n, e := dict.Define(before, w)
			if count == api.MaxWords {
				if !isNone(m) || n != 0 || e != api.ErrMany {
					t.Errorf("%d words, %v: %d, %v; want ErrMany", count, w, n, e)
				}
				continue
			}
			if !alike(m, want) || n != count || e != api.OK || !dict.Formed(m) {
				t.Errorf("%d words, %v: %d, %v, formed %v", count, w, n, e, dict.Formed(m))
			}
		}
		for _, w := range wrongWords(uint32(count)) {
			if m, n, e := dict.Define(before, w); !isNone(m) || n != 0 || e != api.ErrArg {
				t.Errorf("%d words, %v: %d, %v; want ErrArg", count, w, n, e)
			}
		}
	}
}

// P9.1: Bind lays a word's number at its code's place, filling up with -1 what lies ahead.
func TestBind(t *testing.T) {
	for _, l := range [][]int{nil, {}, {3}, {-1, 4, 5}, make([]int, 2048)} {
		for _, code := range []int{2048, 2049, 2050, 2051, 2052, 3000, 4094, 4095} {
			for _, xt := range []int{0, 41, square, words - 1} {
				before := with(func(m *api.Machine) { m.Codes = l })
				want := with(func(m *api.Machine) { m.Codes = bound(l, code, xt) })
				if m, e := dict.Bind(before, code, xt); !alike(m, want) || e != api.OK || !dict.Formed(m) {
					t.Errorf("%d codes: Bind %d, %d: %v, %v", len(l), code, xt, m.Codes, e)
				}
			}
		}
	}
}

// bound: the codes with one of them bound, told place by place.
func bound(l []int, code, xt int) []int {
	all := make([]int, max(len(l), code-2047))
	for i := range all {
		switch {
		case i == code-2048:
			all[i] = xt
		case i < len(l):
			all[i] = l[i]
		default:
			all[i] = -1
		}
	}
	return all
}

// P9.1: Bind answers ErrToken for a code that isn't one ahead of ErrNone for a word that isn't one.
func TestBindRefuses(t *testing.T) {
	for _, code := range []int{math.MinInt, -1, 0, 0x47, 2047, 4096, 6000, math.MaxInt} {
		for _, xt := range []int{math.MinInt, -1, 0, words - 1, words, math.MaxInt} {
			if m, e := dict.Bind(whole(), code, xt); !isNone(m) || e != api.ErrToken {
				t.Errorf("Bind %d, %d: %v, %v; want ErrToken", code, xt, m.Codes, e)
			}
		}
	}
	for _, code := range []int{2048, 2051, 2052, 4095} {
		for _, xt := range []int{math.MinInt, -2, -1, words, words + 1, math.MaxInt} {
			if m, e := dict.Bind(whole(), code, xt); !isNone(m) || e != api.ErrNone {
				t.Errorf("Bind %d, %d: %v, %v; want ErrNone", code, xt, m.Codes, e)
			}
		}
	}
}

// P9.1: Code tells what Codes have at a number from 2048 on, unless that is -1, also in machines that are not formed.
func TestCode(t *testing.T) {
	odd := api.Machine{Codes: make([]int, 2060)}
	odd.Codes[0], odd.Codes[1], odd.Codes[2], odd.Codes[2059] = -2, math.MaxInt, -1, 7
	odd.Codes[3] = math.MinInt
	for _, x := range []struct {
		m    api.Machine
		code int
		n    int
		ok   bool
	}{
		{whole(), 2047, 0, false}, {whole(), 2048, 0, false}, {whole(), 2049, nameless, true}, {whole(), 2050, 0, true},
		{whole(), 2051, diskSq, true}, {whole(), 2052, 0, false}, {whole(), 4095, 0, false}, {whole(), 4096, 0, false},
		{whole(), math.MinInt, 0, false}, {whole(), -1, 0, false}, {whole(), 0, 0, false}, {whole(), 0x18, 0, false},
		{whole(), math.MaxInt, 0, false}, {whole(), 0x47, 41, true}, {whole(), 0x2d5, 110, true}, {whole(), 0x77, 0, false},
		{odd, 2048, -2, true}, {odd, 2049, math.MaxInt, true}, {odd, 2050, 0, false}, {odd, 2051, math.MinInt, true},
		{odd, 2052, 0, true}, {odd, 4095, 0, true}, {odd, 4107, 7, true}, {odd, 4108, 0, false}, {odd, 0x19, 0, true},
		{api.Machine{}, 2048, 0, false}, {api.Machine{}, 0x47, 41, true},
	} {
		if n, ok := dict.Code(x.m, x.code); n != x.n || ok != x.ok {
			t.Errorf("Code %d: %d, %v; want %d, %v", x.code, n, ok, x.n, x.ok)
		}
	}
}
