package inner_test

import (
	"bytes"
	"slices"
	"strconv"
	"strings"
	"testing"

	"tinder/api"
	"tinder/code"
	"tinder/dict"
	"tinder/inner"
)

// plenty is fuel that none of the words that end by themselves uses up.
const plenty = 20000

// minus: the cell of -n.
func minus(n uint32) uint32 { return -n }

func cells(l ...uint32) []uint32 { return l }

// many: so many cells, 1 the lowest.
func many(n int) []uint32 {
	var l []uint32
	for i := range n {
		l = append(l, uint32(i+1))
	}
	return l
}

func alikeWord(a, b api.Word) bool {
	return a.Name == b.Name && a.Node == b.Node && a.Kind == b.Kind && a.N == b.N && slices.Equal(a.Code, b.Code)
}

func alikeProp(a, b api.Prop) bool { return a.Name == b.Name && bytes.Equal(a.Data, b.Data) }

func alikeNode(a, b api.Node) bool {
	return a.Name == b.Name && slices.Equal(a.Unit, b.Unit) && a.Parent == b.Parent &&
		slices.EqualFunc(a.Props, b.Props, alikeProp) && slices.Equal(a.Cells, b.Cells)
}

func alikeInst(a, b api.Inst) bool {
	return a.Node == b.Node && a.Parent == b.Parent && a.Args == b.Args && slices.Equal(a.Cells, b.Cells)
}

// alike: the same machine, its lists nil or empty.
func alike(a, b api.Machine) bool {
	return slices.Equal(a.Stack, b.Stack) && bytes.Equal(a.Mem, b.Mem) &&
		slices.EqualFunc(a.Words, b.Words, alikeWord) && slices.Equal(a.Codes, b.Codes) && a.Base == b.Base &&
		slices.EqualFunc(a.Tree, b.Tree, alikeNode) && a.Node == b.Node &&
		slices.EqualFunc(a.Insts, b.Insts, alikeInst) && a.Self == b.Self && a.Out == b.Out
}

// The places of the texts in the desk's memory.
const (
	atReg    = 8  // reg, a property of the disk
	atHi     = 11 // hi, a method of the bus and of the disk
	atGo     = 13 // go, a method of the disk, a deferred word
	atZz     = 15 // zz, nobody's
	atBad    = 17 // A/, no name
	atBytes  = 20 // 0 0 1 2 a b 0 c
	deskSize = 28
)

// The devices and instances of the desk.
const (
	bus  = 1
	disk = 2
	tty  = 3

	onDisk = 0 // on onBus, with the cells 30 and 31
	isFree = 1
	onBus  = 2 // with the cell 20
	onTty  = 3 // on onBus
	other  = 4 // of the disk too, on none, with the cells 40 and 41
)

// The words of the desk behind the first ones.
const (
	wConst = api.Prims + iota
	wValue
	wVar
	wDefer
	wInst
	busHi
	diskHi
	diskGo
	wSelf
	deskWords
)

// desk: a machine with some of everything, no device and no instance being at work; made anew each time.
func desk() api.Machine {
	m := dict.New()
	m.Mem = []byte("\x00\x00\x00\x05\x80\x01\x02\xffreghigozzA/\x00\x00\x00\x01\x02ab\x00c")
	m.Codes = []int{-1, wConst}
	m.Base = 10
	m.Tree = []api.Node{
		{Parent: -1},
		{Name: "bus", Unit: []uint32{31, 0}, Parent: 0, Cells: []uint32{1}},
		{Name: "disk", Unit: []uint32{1}, Parent: bus, Cells: []uint32{2, 3}, Props: []api.Prop{{Name: "a"}, {Name: "reg", Data: []byte{9, 8, 7}}}},
		{Name: "tty", Parent: bus},
	}
	m.Insts = []api.Inst{
		{Node: disk, Parent: onBus, Args: "x", Cells: []uint32{30, 31}}, {Node: -1, Parent: -1},
		{Node: bus, Parent: -1, Cells: []uint32{20}}, {Node: tty, Parent: onBus}, {Node: disk, Parent: -1, Cells: []uint32{40, 41}},
	}
	dup, _ := dict.Find(m, "dup")
	toR, _ := dict.Find(m, ">r")
	m.Words = append(m.Words,
		api.Word{Name: "k", Node: -1, Kind: api.WConst, N: 7},
		api.Word{Name: "v", Node: -1, Kind: api.WValue, N: 5},
		api.Word{Name: "var", Node: -1, Kind: api.WVar, N: 4},
		api.Word{Name: "d", Node: -1, Kind: api.WDefer, N: uint32(dup)},
		api.Word{Name: "c", Node: disk, Kind: api.WInst, N: 1},
		api.Word{Name: "hi", Node: bus, Kind: api.WConst, N: 77},
		api.Word{Name: "hi", Node: disk, Kind: api.WColon, Code: []api.Op{{Kind: api.OCall, N: wInst}, {Kind: api.OCall, N: wSelf}}},
		api.Word{Name: "go", Node: disk, Kind: api.WDefer, N: uint32(toR)},
		api.Word{Name: "me", Node: -1, Kind: api.WColon, Code: []api.Op{call(m, "my-self")}},
	)
	return m
}

// with: the desk, changed.
func with(do func(m *api.Machine)) api.Machine {
	m := desk()
	do(&m)
	return m
}

// holding: the machine with this stack.
func holding(m api.Machine, l ...uint32) api.Machine {
	m.Stack = l
	return m
}

// atWork: the machine with that device at work.
func atWork(m api.Machine, node int) api.Machine {
	m.Node = node
	return m
}

// as: the machine with that instance at work.
func as(m api.Machine, inst int) api.Machine {
	m.Self = inst
	return m
}

func find(m api.Machine, name string) int {
	n, ok := dict.Find(m, name)
	if !ok {
		panic("no word " + name)
	}
	return n
}

func call(m api.Machine, name string) api.Op {
	return api.Op{Kind: api.OCall, N: uint32(find(m, name))}
}

func lit(n uint32) api.Op { return api.Op{Kind: api.OLit, N: n} }

// acts: what a name in a test's text builds.
func acts(name string) []int {
	return map[string][]int{
		"if": {api.AIf}, "else": {api.AAhead, api.AThen}, "then": {api.AThen}, "begin": {api.ABegin}, "again": {api.AAgain}, "until": {api.AUntil},
		"while": {api.AIf}, "repeat": {api.AAgain, api.AThen}, "do": {api.ADo}, "?do": {api.AQDo}, "loop": {api.ALoop}, "+loop": {api.APlus},
		"leave": {api.ALeave}, "case": {api.ACase}, "of": {api.AOf}, "endof": {api.AEndof}, "endcase": {api.AEndcase},
	}[name]
}

// raw: an instruction that is told by its kind's name and its number, such as oloop:3.
func raw(s string) (api.Op, bool) {
	name, digits, _ := strings.Cut(s, ":")
	kind := slices.Index([]string{"", "olit", "ocall", "obranch", "ozero", "odo", "oqdo", "oloop", "oplus", "oleave", "oof", "odrop", "oexit", "oto"}, name)
	n, err := strconv.ParseUint(digits, 10, 32)
	return api.Op{Kind: kind, N: uint32(n)}, kind > 0 && err == nil
}

// put: what a single name of a test's text puts: a number, 'name a word's number, to:name, exit, call:name or name a word that is run.
func put(m api.Machine, s string) api.Op {
	if n, err := strconv.ParseInt(s, 0, 64); err == nil {
		return lit(uint32(n))
	}
	if name, is := strings.CutPrefix(s, "'"); is {
		return lit(uint32(find(m, name)))
	}
	if name, is := strings.CutPrefix(s, "to:"); is {
		return api.Op{Kind: api.OTo, N: uint32(find(m, name))}
	}
	if s == "exit" {
		return api.Op{Kind: api.OExit}
	}
	return call(m, strings.TrimPrefix(s, "call:"))
}

// compiled: the code of a test's text; with raw instructions in it there must be nothing of acts.
func compiled(t testing.TB, m api.Machine, text string) []api.Op {
	t.Helper()
	var d api.Draft
	for _, s := range strings.Fields(text) {
		if o, is := raw(s); is {
			d.Code = append(d.Code, o)
			continue
		}
		l := acts(s)
		e := api.OK
		for _, act := range l {
			if e == api.OK {
				d, e = code.Act(d, act)
			}
		}
		if l == nil {
			d, e = code.Put(d, put(m, s))
		}
		if e != api.OK {
			t.Fatalf("%s: %v at %s", text, e, s)
		}
	}
	l, e := code.Finish(d)
	if e != api.OK {
		t.Fatalf("%s: %v", text, e)
	}
	return l
}

// known: the machine with colon words more, each told by its name and a text, in which its own name may stand.
func known(t testing.TB, m api.Machine, texts ...string) api.Machine {
	t.Helper()
	for _, text := range texts {
		name, rest, _ := strings.Cut(text, " ")
		m.Words = append(slices.Clone(m.Words), api.Word{Name: name, Node: -1, Kind: api.WColon})
		m.Words[len(m.Words)-1].Code = compiled(t, m, rest)
	}
	if !dict.Formed(m) {
		t.Fatalf("%v: not formed", texts)
	}
	return m
}

// behind: the machine with a nameless colon word of the text behind its words, and its number.
func behind(t testing.TB, m api.Machine, text string) (api.Machine, int) {
	t.Helper()
	m.Words = append(slices.Clone(m.Words), api.Word{Node: -1, Kind: api.WColon, Code: compiled(t, m, text)})
	if !dict.Formed(m) {
		t.Fatalf("%s: not formed", text)
	}
	return m, len(m.Words) - 1
}

// isNone: the zero machine.
func isNone(m api.Machine) bool {
	return alike(m, api.Machine{})
}

// run: what Run answers, held against Thrown and against the rules that hold for each answer.
func run(t testing.TB, m api.Machine, xt, fuel int) (api.Machine, int, api.Errno) {
	t.Helper()
	kept := twin(m)
	y, left, e := inner.Run(m, xt, fuel)
	n, f := inner.Thrown(m, xt, fuel)
	if !alike(m, kept) {
		t.Fatal("what is handed in is changed")
	}
	if f != e || f != api.ErrThrow && n != 0 || f == api.ErrThrow && n == 0 {
		t.Fatalf("Thrown: %d, %v; Run: %v", n, f, e)
	}
	if e != api.OK && (!isNone(y) || left != 0) {
		t.Fatalf("beside %v: %v, %d", e, y, left)
	}
	if e == api.OK && (!dict.Formed(y) || left < 0 || left >= fuel) {
		t.Fatalf("not formed, or with %d steps left of %d: %v", left, fuel, y)
	}
	return y, left, e
}

// done: the machine behind a text that is run without an error.
func done(t testing.TB, m api.Machine, text string) api.Machine {
	t.Helper()
	m, xt := behind(t, m, text)
	y, _, e := run(t, m, xt, plenty)
	if e != api.OK {
		t.Fatalf("%s: %v", text, e)
	}
	return y
}

// leaves: is that the stack behind the text?
func leaves(t testing.TB, m api.Machine, text string, want ...uint32) {
	t.Helper()
	if y := done(t, m, text); !slices.Equal(y.Stack, want) {
		t.Errorf("%s: %v; want %v", text, y.Stack, want)
	}
}

// errs: is that the error of the text?
func errs(t testing.TB, m api.Machine, text string, want api.Errno) {
	t.Helper()
	m, xt := behind(t, m, text)
	if _, _, e := run(t, m, xt, plenty); e != want {
		t.Errorf("%s: %v; want %v", text, e, want)
	}
}
