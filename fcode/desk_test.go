package fcode_test

import (
	"bytes"
	"fmt"
	"regexp"
	"slices"
	"strconv"
	"strings"
	"testing"

	"tinder/api"
	"tinder/dict"
	"tinder/fcode"
	"tinder/head"
	"tinder/token"
)

// plenty is fuel that none of the programs that end by themselves uses up.
const plenty = 20000

// minus: the cell of -n.
func minus(n uint32) uint32 { return -n }

func cells(l ...uint32) []uint32 { return l }

// many: so many cells, 1 the lowest.
func many(n int) []uint32 {
	var l []uint32
	for i := range n {
		l = append(l, uint32(i+1))
	}
	return l
}

func alikeWord(a, b api.Word) bool {
	return a.Name == b.Name && a.Node == b.Node && a.Kind == b.Kind && a.N == b.N && slices.Equal(a.Code, b.Code)
}

func alikeProp(a, b api.Prop) bool { return a.Name == b.Name && bytes.Equal(a.Data, b.Data) }

func alikeNode(a, b api.Node) bool {
	return a.Name == b.Name && slices.Equal(a.Unit, b.Unit) && a.Parent == b.Parent &&
		slices.EqualFunc(a.Props, b.Props, alikeProp) && slices.Equal(a.Cells, b.Cells)
}

func alikeInst(a, b api.Inst) bool {
	return a.Node == b.Node && a.Parent == b.Parent && a.Args == b.Args && slices.Equal(a.Cells, b.Cells)
}

// alikeBut: the same machine but for its Codes, its lists nil or empty.
func alikeBut(a, b api.Machine) bool {
	return slices.Equal(a.Stack, b.Stack) && bytes.Equal(a.Mem, b.Mem) &&
		slices.EqualFunc(a.Words, b.Words, alikeWord) && a.Base == b.Base &&
		slices.EqualFunc(a.Tree, b.Tree, alikeNode) && a.Node == b.Node &&
		slices.EqualFunc(a.Insts, b.Insts, alikeInst) && a.Self == b.Self && a.Out == b.Out
}

// alike: the same machine.
func alike(a, b api.Machine) bool { return alikeBut(a, b) && slices.Equal(a.Codes, b.Codes) }

// isNone: the zero machine.
func isNone(m api.Machine) bool { return alike(m, api.Machine{}) }

// twin: the same machine as new memory.
func twin(m api.Machine) api.Machine {
	m.Stack, m.Mem, m.Codes = anew(m.Stack), anew(m.Mem), anew(m.Codes)
	m.Words, m.Tree, m.Insts = anew(m.Words), anew(m.Tree), anew(m.Insts)
	for i := range m.Words {
		m.Words[i].Code = anew(m.Words[i].Code)
	}
	for i := range m.Tree {
		d := &m.Tree[i]
		d.Unit, d.Cells, d.Props = anew(d.Unit), anew(d.Cells), anew(d.Props)
		for k := range d.Props {
			d.Props[k].Data = anew(d.Props[k].Data)
		}
	}
	for i := range m.Insts {
		m.Insts[i].Cells = anew(m.Insts[i].Cells)
	}
	return m
}

func anew[T any](l []T) []T { return append(make([]T, 0, len(l)), l...) }

// The devices and instances of the desk.
const (
	bus  = 1 // no instance of it is alive
	disk = 2

	onDisk = 1 // with the cells 30 and 31
)

// The words of the desk behind the first ones; their codes are 801 to 806, in this order.
const (
	wConst = api.Prims + iota
	wValue
	wVar
	wDefer
	wInst
	wColon
	deskWords
)

// desk: a machine with some of everything, no device and no instance being at work; made anew each time. No word has the code 800 or one from 808 on, dup has 807 too.
func desk() api.Machine {
	m := dict.New()
	m.Mem = []byte("\x00\x00\x00\x05hi")
	m.Codes = []int{-1, wConst, wValue, wVar, wDefer, wInst, wColon, first("dup"), -1}
	m.Base = 10
	m.Tree = []api.Node{
		{Parent: -1},
		{Name: "bus", Unit: []uint32{31, 0}, Parent: 0, Cells: []uint32{1}},
		{Name: "disk", Parent: bus, Cells: []uint32{2, 3}, Props: []api.Prop{{Name: "reg", Data: []byte{9, 8}}}},
	}
	m.Insts = []api.Inst{{Node: -1, Parent: -1}, {Node: disk, Parent: -1, Args: "x", Cells: []uint32{30, 31}}}
	m.Words = append(m.Words,
		api.Word{Name: "k", Node: -1, Kind: api.WConst, N: 7},
		api.Word{Name: "v", Node: -1, Kind: api.WValue, N: 5},
		api.Word{Name: "var", Node: -1, Kind: api.WVar, N: 4},
		api.Word{Name: "", Node: -1, Kind: api.WDefer, N: uint32(first("dup"))},
		api.Word{Name: "c", Node: disk, Kind: api.WInst, N: 1},
		api.Word{Name: "twice", Node: disk, Kind: api.WColon, Code: []api.Op{call("dup"), call("+")}},
	)
	return m
}

// with: the desk, changed.
func with(do func(m *api.Machine)) api.Machine {
	m := desk()
	do(&m)
	return m
}

// holding: the machine with this stack.
func holding(m api.Machine, l ...uint32) api.Machine {
	m.Stack = l
	return m
}

// atWork: the machine with that device at work.
func atWork(m api.Machine, node int) api.Machine {
	m.Node = node
	return m
}

// as: the machine with that instance at work.
func as(m api.Machine, inst int) api.Machine {
	m.Self = inst
	return m
}

// sized: the machine with so many bytes of memory.
func sized(m api.Machine, n int) api.Machine {
	m.Mem = bytes.Repeat([]byte{7}, n)
	return m
}

// shown: the machine with so many bytes on the console.
func shown(m api.Machine, n int) api.Machine {
	m.Out = strings.Repeat("x", n)
	return m
}

// wordy: the machine with nameless words behind its own, so many in all.
func wordy(m api.Machine, n int) api.Machine {
	m.Words = slices.Clone(m.Words)
	for len(m.Words) < n {
		m.Words = append(m.Words, api.Word{Node: -1, Kind: api.WConst})
	}
	return m
}

// celled: the machine, with so many cells of the instances of a device.
func celled(m api.Machine, node, n int) api.Machine {
	m.Tree = slices.Clone(m.Tree)
	m.Tree[node].Cells = many(n)
	return m
}

// first: the number of one of the first words.
func first(name string) int {
	n := slices.IndexFunc(dict.Prims(), func(p api.Prim) bool { return p.Name == name })
	if n < 0 {
		panic("no first word " + name)
	}
	return n
}

func call(name string) api.Op { return api.Op{Kind: api.OCall, N: uint32(first(name))} }

func lit(n uint32) api.Op { return api.Op{Kind: api.OLit, N: n} }

func op(kind int, n uint32) api.Op { return api.Op{Kind: kind, N: n} }

var shortForm = regexp.MustCompile(`([0-9a-f]+)("[^"]*")?(=[0-9a-f]+)?([+-][0-9]+)?( |$)`)

// toks: tokens in a short form: the code in hexadecimal digits, and what isn't zero behind it: a text in quotation marks, = and a number in hexadecimal digits, an offset with its sign.
func toks(s string) []api.Tok {
	if strings.TrimSpace(shortForm.ReplaceAllString(s, "")) != "" {
		panic("no tokens: " + s)
	}
	var l []api.Tok
	for _, x := range shortForm.FindAllStringSubmatch(s, -1) {
		code, _ := strconv.ParseInt(x[1], 16, 32)
		n, _ := strconv.ParseUint(strings.TrimPrefix(x[3], "="), 16, 32)
		off, _ := strconv.Atoi(x[4])
		l = append(l, api.Tok{Code: int(code), Text: strings.Trim(x[2], `"`), N: uint32(n), Off: off})
	}
	return l
}

// told: tokens in the short form.
func told(l []api.Tok) string {
	var all []string
	for _, x := range l {
		s := fmt.Sprintf("%x", x.Code)
		if x.Text != "" {
			s += fmt.Sprintf("%q", x.Text)
		}
		if x.N != 0 {
			s += fmt.Sprintf("=%x", x.N)
		}
		if x.Off != 0 {
			s += fmt.Sprintf("%+d", x.Off)
		}
		all = append(all, s)
	}
	return strings.Join(all, " ")
}

// headed: the program of a body.
func headed(t testing.TB, body []byte, wide bool) []byte {
	t.Helper()
	p, e := head.Make(body, wide)
	if e != api.OK {
		t.Fatalf("%d bytes: %v", len(body), e)
	}
	return p
}

// program: that of tokens, wide.
func program(t testing.TB, l []api.Tok) []byte {
	t.Helper()
	b, e := token.Encode(l, true)
	if e != api.OK {
		t.Fatalf("%s: %v", told(l), e)
	}
	return headed(t, b, true)
}

// ended: tokens in the short form, with the 0 behind them that isn't told.
func ended(s string) []api.Tok { return append(toks(s), api.Tok{}) }

// eval: what Eval answers, held against the rules that hold for each answer.
func eval(t testing.TB, m api.Machine, p []byte, fuel int) (api.Machine, int, api.Errno) {
	t.Helper()
	kept, bytesKept := twin(m), slices.Clone(p)
	y, left, e := fcode.Eval(m, p, fuel)
	if !alike(m, kept) || !bytes.Equal(p, bytesKept) {
		t.Fatalf("%x: what is handed in is changed", p)
	}
	if e != api.OK && (!isNone(y) || left != 0) {
		t.Fatalf("%x: beside %v: %v, %d", p, e, y, left)
	}
	if e == api.OK && (!dict.Formed(y) || left < 0 || left > fuel) {
		t.Fatalf("%x: not formed, or with %d steps left of %d: %v", p, left, fuel, y)
	}
	return y, left, e
}

// done: the machine behind tokens without an error.
func done(t testing.TB, m api.Machine, s string) api.Machine {
	t.Helper()
	y, _, e := eval(t, m, program(t, ended(s)), plenty)
	if e != api.OK {
		t.Fatalf("%s: %v", s, e)
	}
	return y
}

// comesOf: do the tokens come to that machine, by so many steps?
func comesOf(t testing.TB, m api.Machine, l []api.Tok, want api.Machine, steps int) {
	t.Helper()
	y, left, e := eval(t, m, program(t, l), plenty)
	if e != api.OK || left != plenty-steps || !alike(y, want) {
		t.Errorf("%s: %v, by %d steps: stack %v, memory %q, words %v, codes %v, node %d, out %q; want by %d: stack %v, memory %q, words %v, codes %v, node %d, out %q",
			told(l), e, plenty-left, y.Stack, y.Mem, later(y), y.Codes, y.Node, y.Out, steps, want.Stack, want.Mem, later(want), want.Codes, want.Node, want.Out)
	}
}

// comes: do they, in the short form, on a machine that is changed so?
func comes(t testing.TB, m api.Machine, s string, steps int, change func(m *api.Machine)) {
	t.Helper()
	want := twin(m)
	change(&want)
	comesOf(t, m, ended(s), want, steps)
}

// later: the words behind those of the desk.
func later(m api.Machine) []api.Word {
	if len(m.Words) < deskWords {
		return nil
	}
	return m.Words[deskWords:]
}

// leaves: is that the stack behind the tokens?
func leaves(t testing.TB, m api.Machine, s string, want ...uint32) {
	t.Helper()
	if y := done(t, m, s); !slices.Equal(y.Stack, want) {
		t.Errorf("%s: %v; want %v", s, y.Stack, want)
	}
}

// errsOf: is that the error of the tokens?
func errsOf(t testing.TB, m api.Machine, l []api.Tok, fuel int, want api.Errno) {
	t.Helper()
	if _, _, e := eval(t, m, program(t, l), fuel); e != want {
		t.Errorf("%.200s: %v; want %v", told(l), e, want)
	}
}

// errs: is it, of tokens in the short form?
func errs(t testing.TB, m api.Machine, s string, want api.Errno) {
	t.Helper()
	errsOf(t, m, ended(s), plenty, want)
}

// compiled: is that the code of a definition with this body, and nothing else changed?
func compiled(t testing.TB, m api.Machine, body string, want ...api.Op) {
	t.Helper()
	comes(t, m, `b6"x"=808 b7 `+body+` c2`, 0, func(m *api.Machine) {
		added(m, 0x808, api.Word{Name: "x", Node: m.Node, Kind: api.WColon, Code: want})
	})
}

// added: the machine gets that word, with that code.
func added(m *api.Machine, code int, w api.Word) {
	m.Words = append(m.Words, w)
	for len(m.Codes) <= code-0x800 {
		m.Codes = append(m.Codes, -1)
	}
	m.Codes[code-0x800] = len(m.Words) - 1
}
