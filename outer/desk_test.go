package outer_test

import (
	"bytes"
	"slices"
	"strings"
	"testing"

	"tinder/api"
	"tinder/dict"
	"tinder/outer"
)

// plenty is fuel that none of the texts that end by themselves uses up.
const plenty = 20000

// The numbers by which words are made.
const (
	byValue    = 0xb8
	byVariable = 0xb9
	byConstant = 0xba
	byDefer    = 0xbc
	byBuffer   = 0xbd
)

// minus: the cell of -n.
func minus(n uint32) uint32 { return -n }

func cells(l ...uint32) []uint32 { return l }

// many: so many cells, 1 the lowest.
func many(n int) []uint32 {
	var l []uint32
	for i := range n {
		l = append(l, uint32(i+1))
	}
	return l
}

func alikeWord(a, b api.Word) bool {
	return a.Name == b.Name && a.Node == b.Node && a.Kind == b.Kind && a.N == b.N && slices.Equal(a.Code, b.Code)
}

func alikeProp(a, b api.Prop) bool { return a.Name == b.Name && bytes.Equal(a.Data, b.Data) }

func alikeNode(a, b api.Node) bool {
	return a.Name == b.Name && slices.Equal(a.Unit, b.Unit) && a.Parent == b.Parent &&
		slices.EqualFunc(a.Props, b.Props, alikeProp) && slices.Equal(a.Cells, b.Cells)
}

func alikeInst(a, b api.Inst) bool {
	return a.Node == b.Node && a.Parent == b.Parent && a.Args == b.Args && slices.Equal(a.Cells, b.Cells)
}

// alike: the same machine, its lists nil or empty.
func alike(a, b api.Machine) bool {
	return slices.Equal(a.Stack, b.Stack) && bytes.Equal(a.Mem, b.Mem) &&
		slices.EqualFunc(a.Words, b.Words, alikeWord) && slices.Equal(a.Codes, b.Codes) && a.Base == b.Base &&
		slices.EqualFunc(a.Tree, b.Tree, alikeNode) && a.Node == b.Node &&
		slices.EqualFunc(a.Insts, b.Insts, alikeInst) && a.Self == b.Self && a.Out == b.Out
}

// isNone: the zero machine.
func isNone(m api.Machine) bool { return alike(m, api.Machine{}) }

// twin: the same machine as new memory.
func twin(m api.Machine) api.Machine {
	m.Stack, m.Mem, m.Codes = anew(m.Stack), anew(m.Mem), anew(m.Codes)
	m.Words, m.Tree, m.Insts = anew(m.Words), anew(m.Tree), anew(m.Insts)
	for i := range m.Words {
		m.Words[i].Code = anew(m.Words[i].Code)
	}
	for i := range m.Tree {
		d := &m.Tree[i]
		d.Unit, d.Cells, d.Props = anew(d.Unit), anew(d.Cells), anew(d.Props)
		for k := range d.Props {
			d.Props[k].Data = anew(d.Props[k].Data)
		}
	}
	for i := range m.Insts {
		m.Insts[i].Cells = anew(m.Insts[i].Cells)
	}
	return m
}

func anew[T any](l []T) []T { return append(make([]T, 0, len(l)), l...) }

// The devices and instances of the desk.
const (
	bus  = 1 // no instance of it is alive
	disk = 2

	onDisk = 1 // with the cells 30 and 31
)

// The words of the desk behind the first ones.
const (
	wConst = api.Prims + iota
	wValue
	wVar
	wDefer
	wInst
	wColon
	deskWords
)

// deskSize is how many bytes of memory the desk has: no multiple of 4.
const deskSize = 6

// desk: a machine with some of everything, no device and no instance being at work; made anew each time.
func desk() api.Machine {
	m := dict.New()
	m.Mem = []byte("\x00\x00\x00\x05hi")
	m.Codes = []int{-1, wConst}
	m.Base = 10
	m.Tree = []api.Node{
		{Parent: -1},
		{Name: "bus", Unit: []uint32{31, 0}, Parent: 0, Cells: []uint32{1}},
		{Name: "disk", Parent: bus, Cells: []uint32{2, 3}, Props: []api.Prop{{Name: "reg", Data: []byte{9, 8}}}},
	}
	m.Insts = []api.Inst{{Node: -1, Parent: -1}, {Node: disk, Parent: -1, Args: "x", Cells: []uint32{30, 31}}}
	m.Words = append(m.Words,
		api.Word{Name: "k", Node: -1, Kind: api.WConst, N: 7},
		api.Word{Name: "v", Node: -1, Kind: api.WValue, N: 5},
		api.Word{Name: "var", Node: -1, Kind: api.WVar, N: 4},
		api.Word{Name: "d", Node: -1, Kind: api.WDefer, N: uint32(first("dup"))},
		api.Word{Name: "c", Node: disk, Kind: api.WInst, N: 1},
		api.Word{Name: "twice", Node: -1, Kind: api.WColon, Code: []api.Op{call("dup"), call("+")}},
	)
	return m
}

// with: the desk, changed.
func with(do func(m *api.Machine)) api.Machine {
	m := desk()
	do(&m)
	return m
}

// holding: the machine with this stack.
func holding(m api.Machine, l ...uint32) api.Machine {
	m.Stack = l
	return m
}

// atWork: the machine with that device at work.
func atWork(m api.Machine, node int) api.Machine {
	m.Node = node
	return m
}

// as: the machine with that instance at work.
func as(m api.Machine, inst int) api.Machine {
	m.Self = inst
	return m
}

// sized: the machine with so many bytes of memory.
func sized(m api.Machine, n int) api.Machine {
	m.Mem = bytes.Repeat([]byte{7}, n)
	return m
}

// shown: the machine with so many bytes on the console.
func shown(m api.Machine, n int) api.Machine {
	m.Out = strings.Repeat("x", n)
	return m
}

// wordy: the machine with nameless words behind its own, so many in all.
func wordy(m api.Machine, n int) api.Machine {
	m.Words = slices.Clone(m.Words)
	for len(m.Words) < n {
		m.Words = append(m.Words, api.Word{Node: -1, Kind: api.WConst})
	}
	return m
}

// celled: the machine, with so many cells of the instances of a device.
func celled(m api.Machine, node, n int) api.Machine {
	m.Tree = slices.Clone(m.Tree)
	m.Tree[node].Cells = many(n)
	return m
}

// first: the number of one of the first words.
func first(name string) int {
	n := slices.IndexFunc(dict.Prims(), func(p api.Prim) bool { return p.Name == name })
	if n < 0 {
		panic("no first word " + name)
	}
	return n
}

func call(name string) api.Op { return api.Op{Kind: api.OCall, N: uint32(first(name))} }

func lit(n uint32) api.Op { return api.Op{Kind: api.OLit, N: n} }

func op(kind int, n uint32) api.Op { return api.Op{Kind: kind, N: n} }

// eval: what Eval answers, held against the rules that hold for each answer.
func eval(t testing.TB, m api.Machine, text string, fuel int) (api.Machine, int, api.Errno) {
	t.Helper()
	kept := twin(m)
	y, left, e := outer.Eval(m, text, fuel)
	if !alike(m, kept) {
		t.Fatalf("%q: what is handed in is changed", text)
	}
	if e != api.OK && (!isNone(y) || left != 0) {
		t.Fatalf("%q: beside %v: %v, %d", text, e, y, left)
	}
	if e == api.OK && (!dict.Formed(y) || left < 0 || left > fuel) {
		t.Fatalf("%q: not formed, or with %d steps left of %d: %v", text, left, fuel, y)
	}
	return y, left, e
}

// done: the machine behind a text without an error.
func done(t testing.TB, m api.Machine, text string) api.Machine {
	t.Helper()
	y, _, e := eval(t, m, text, plenty)
	if e != api.OK {
		t.Fatalf("%q: %v", text, e)
	}
	return y
}

// comes: does the text come to that machine, by so many steps?
func comes(t testing.TB, m api.Machine, text string, want api.Machine, steps int) {
	t.Helper()
	y, left, e := eval(t, m, text, plenty)
	if e != api.OK || left != plenty-steps || !alike(y, want) {
		t.Errorf("%q: %v, by %d steps: stack %v, memory %q, words %v, node %d, out %q; want by %d: stack %v, memory %q, words %v, node %d, out %q",
			text, e, plenty-left, y.Stack, y.Mem, later(y), y.Node, y.Out, steps, want.Stack, want.Mem, later(want), want.Node, want.Out)
	}
}

// later: the words behind those of the desk.
func later(m api.Machine) []api.Word {
	if len(m.Words) < deskWords {
		return nil
	}
	return m.Words[deskWords:]
}

// leaves: is that the stack behind the text?
func leaves(t testing.TB, m api.Machine, text string, want ...uint32) {
	t.Helper()
	if y := done(t, m, text); !slices.Equal(y.Stack, want) {
		t.Errorf("%q: %v; want %v", text, y.Stack, want)
	}
}

// errs: is that the error of the text?
func errs(t testing.TB, m api.Machine, text string, fuel int, want api.Errno) {
	t.Helper()
	if _, _, e := eval(t, m, text, fuel); e != want {
		t.Errorf("%.80q: %v; want %v", text, e, want)
	}
}

// compiled: is that the code of the definition : x with this body?
func compiled(t testing.TB, m api.Machine, body string, want ...api.Op) {
	t.Helper()
	y := done(t, m, ": x "+body+" ;")
	w := y.Words[len(y.Words)-1]
	if !alikeWord(w, api.Word{Name: "x", Node: m.Node, Kind: api.WColon, Code: want}) {
		t.Errorf("%q: %v; want %v", body, w, want)
	}
	if len(y.Words) != len(m.Words)+1 {
		t.Errorf("%q: %d words; want one more than %d", body, len(y.Words), len(m.Words))
	}
}
