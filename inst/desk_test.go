package inst_test

import (
	"bytes"
	"slices"
	"testing"

	"tinder/api"
	"tinder/dict"
	"tinder/inst"
	"tinder/outer"
)

// plenty is fuel that none of the methods that end by themselves uses up.
const plenty = 20000

func cells(l ...uint32) []uint32 { return l }

// many: so many cells, 1 the lowest.
func many(n int) []uint32 {
	var l []uint32
	for i := range n {
		l = append(l, uint32(i+1))
	}
	return l
}

func alikeWord(a, b api.Word) bool {
	return a.Name == b.Name && a.Node == b.Node && a.Kind == b.Kind && a.N == b.N && slices.Equal(a.Code, b.Code)
}

func alikeProp(a, b api.Prop) bool { return a.Name == b.Name && bytes.Equal(a.Data, b.Data) }

func alikeNode(a, b api.Node) bool {
	return a.Name == b.Name && slices.Equal(a.Unit, b.Unit) && a.Parent == b.Parent &&
		slices.EqualFunc(a.Props, b.Props, alikeProp) && slices.Equal(a.Cells, b.Cells)
}

func alikeInst(a, b api.Inst) bool {
	return a.Node == b.Node && a.Parent == b.Parent && a.Args == b.Args && slices.Equal(a.Cells, b.Cells)
}

// alikeBut: the same machine but for its instances, its lists nil or empty.
func alikeBut(a, b api.Machine) bool {
	return slices.Equal(a.Stack, b.Stack) && bytes.Equal(a.Mem, b.Mem) &&
		slices.EqualFunc(a.Words, b.Words, alikeWord) && slices.Equal(a.Codes, b.Codes) && a.Base == b.Base &&
		slices.EqualFunc(a.Tree, b.Tree, alikeNode) && a.Node == b.Node && a.Self == b.Self && a.Out == b.Out
}

// alike: the same machine.
func alike(a, b api.Machine) bool {
	return alikeBut(a, b) && slices.EqualFunc(a.Insts, b.Insts, alikeInst)
}

// isNone: the zero machine.
func isNone(m api.Machine) bool { return alike(m, api.Machine{}) }

// twin: the same machine as new memory.
func twin(m api.Machine) api.Machine {
	m.Stack, m.Mem, m.Codes = anew(m.Stack), anew(m.Mem), anew(m.Codes)
	m.Words, m.Tree, m.Insts = anew(m.Words), anew(m.Tree), anew(m.Insts)
	for i := range m.Words {
		m.Words[i].Code = anew(m.Words[i].Code)
	}
	for i := range m.Tree {
		d := &m.Tree[i]
		d.Unit, d.Cells, d.Props = anew(d.Unit), anew(d.Cells), anew(d.Props)
		for k := range d.Props {
			d.Props[k].Data = anew(d.Props[k].Data)
		}
	}
	for i := range m.Insts {
		m.Insts[i].Cells = anew(m.Insts[i].Cells)
	}
	return m
}

func anew[T any](l []T) []T { return append(make([]T, 0, len(l)), l...) }

// The devices of the desk.
const (
	bus      = 1 // says when it is opened and closed
	disk     = 2 // likewise, on the bus
	part     = 3 // on the disk, without methods and cells
	bareDisk = 4 // on the bus, without such methods
	tty      = 5 // says only when it is closed
)

// How many steps the desk's methods take.
const (
	openSteps      = 17 // of the bus, and of the disk
	closeBusSteps  = 19
	closeDiskSteps = 23
	closeTtySteps  = 15
)

// source: the desk's devices with their methods; words of the same names, which no device has, stand ahead of these and behind.
const source = `
: open 0 ;  : close 99 throw ;  : both 0 0 ;  : me my-self . my-parent . ;
31 0 2 " bus" new-device
	7 instance value w
	: open ." open " me -1 ;
	: close ." close " me w . ;
	: w@ w ;  : w! to w ;
	0 " disk" new-device
		2 instance value c  3 instance value d
		: open ." open " me 1 ;
		: close ." close " me c . d . ;
		: c@ c ;  : c! to c ;  : both c d ;
		0 " part" new-device finish-device
	finish-device
	1 1 " disk" new-device
		8 instance value e
		: e@ e ;  : e! to e ;
	finish-device
finish-device
0 " tty" new-device  : close ." close " me ;  finish-device
finish-device
: open 0 ;  : close 99 throw ;  : both 0 0 ;
`

// desk: a machine with these devices, and no instance.
func desk(t testing.TB) api.Machine {
	t.Helper()
	return made(t, source)
}

// made: a machine that a text has made, which shows numbers in the base 10.
func made(t testing.TB, text string) api.Machine {
	t.Helper()
	m := dict.New()
	m.Base = 10
	return more(t, m, text)
}

// more: the machine behind a text.
func more(t testing.TB, m api.Machine, text string) api.Machine {
	t.Helper()
	m, _, e := outer.Eval(m, text, plenty)
	if e != api.OK {
		t.Fatalf("%q: %v", text, e)
	}
	return m
}

// free: a place that an instance may take.
func free() api.Inst { return api.Inst{Node: -1, Parent: -1} }

// of: an instance of a device, standing on that one, without arguments.
func of(node, parent int, cells ...uint32) api.Inst {
	return api.Inst{Node: node, Parent: parent, Cells: cells}
}

// argued: the instance with these arguments.
func argued(x api.Inst, args string) api.Inst {
	x.Args = args
	return x
}

// having: the machine with these instances.
func having(m api.Machine, l ...api.Inst) api.Machine {
	m.Insts = l
	return m
}

// holding: the machine with this stack.
func holding(m api.Machine, l ...uint32) api.Machine {
	m.Stack = l
	return m
}

// as: the machine with that instance at work.
func as(m api.Machine, i int) api.Machine {
	m.Self = i
	return m
}

// answered: are machine and steps such as may be answered beside that error?
func answered(t testing.TB, m, kept, y api.Machine, fuel, left int, e api.Errno) {
	t.Helper()
	if !alike(m, kept) {
		t.Fatal("what is handed in is changed")
	}
	if e != api.OK && (!isNone(y) || left != 0) {
		t.Fatalf("beside %v: %v, %d", e, y, left)
	}
	if e == api.OK && (!dict.Formed(y) || left < 0 || left > fuel) {
		t.Fatalf("not formed, or with %d steps left of %d: %v", left, fuel, y)
	}
}

// open: what Open answers, held against the rules that hold for each answer.
func open(t testing.TB, m api.Machine, path string, fuel int) (api.Machine, uint32, int, api.Errno) {
	t.Helper()
	kept := twin(m)
	y, ih, left, e := inst.Open(m, path, fuel)
	answered(t, m, kept, y, fuel, left, e)
	if e != api.OK && ih != 0 {
		t.Fatalf("beside %v: the handle %d", e, ih)
	}
	return y, ih, left, e
}

// call: likewise of Call.
func call(t testing.TB, m api.Machine, ih uint32, name string, args []uint32, fuel int) (api.Machine, []uint32, int, api.Errno) {
	t.Helper()
	kept, argsKept := twin(m), anew(args)
	y, l, left, e := inst.Call(m, ih, name, args, fuel)
	answered(t, m, kept, y, fuel, left, e)
	if !slices.Equal(args, argsKept) || e != api.OK && len(l) != 0 {
		t.Fatalf("beside %v: the arguments %v of %v, the cells %v", e, args, argsKept, l)
	}
	return y, l, left, e
}

// shut: likewise of Close.
func shut(t testing.TB, m api.Machine, ih uint32, fuel int) (api.Machine, int, api.Errno) {
	t.Helper()
	kept := twin(m)
	y, left, e := inst.Close(m, ih, fuel)
	answered(t, m, kept, y, fuel, left, e)
	return y, left, e
}

// chain: likewise of Chain.
func chain(t testing.TB, m api.Machine, ih uint32) []uint32 {
	t.Helper()
	kept := twin(m)
	l := inst.Chain(m, ih)
	if !alike(m, kept) {
		t.Fatal("what is handed in is changed")
	}
	return l
}

// opens: does Open answer that handle, with the machine changed so, by so many steps?
func opens(t testing.TB, m api.Machine, path string, want uint32, steps int, change func(m *api.Machine)) {
	t.Helper()
	y, ih, left, e := open(t, m, path, plenty)
	x := twin(m)
	change(&x)
	if e != api.OK || ih != want || left != plenty-steps || !alike(y, x) {
		t.Errorf("Open %q: %v, %d by %d steps: stack %v, instances %v, self %d, out %q; want %d by %d: %v, %v, %d, %q",
			path, e, ih, plenty-left, y.Stack, y.Insts, y.Self, y.Out, want, steps, x.Stack, x.Insts, x.Self, x.Out)
	}
}

// calls: does Call answer these cells, with the machine changed so, by so many steps?
func calls(t testing.TB, m api.Machine, ih uint32, name string, args, want []uint32, steps int, change func(m *api.Machine)) {
	t.Helper()
	y, l, left, e := call(t, m, ih, name, args, plenty)
	x := twin(m)
	change(&x)
	if e != api.OK || !slices.Equal(l, want) || left != plenty-steps || !alike(y, x) {
		t.Errorf("Call %d %q of %v: %v, %v by %d steps: stack %v, instances %v, self %d, out %q; want %v by %d: %v, %v, %d, %q",
			ih, name, args, e, l, plenty-left, y.Stack, y.Insts, y.Self, y.Out, want, steps, x.Stack, x.Insts, x.Self, x.Out)
	}
}

// shuts: does Close answer the machine changed so, by so many steps?
func shuts(t testing.TB, m api.Machine, ih uint32, steps int, change func(m *api.Machine)) {
	t.Helper()
	y, left, e := shut(t, m, ih, plenty)
	x := twin(m)
	change(&x)
	if e != api.OK || left != plenty-steps || !alike(y, x) {
		t.Errorf("Close %d: %v, by %d steps: stack %v, instances %v, self %d, out %q; want by %d: %v, %v, %d, %q",
			ih, e, plenty-left, y.Stack, y.Insts, y.Self, y.Out, steps, x.Stack, x.Insts, x.Self, x.Out)
	}
}

// openErrs, callErrs, shutErrs: is that the error?
func openErrs(t testing.TB, m api.Machine, path string, fuel int, want api.Errno) {
	t.Helper()
	if _, _, _, e := open(t, m, path, fuel); e != want {
		t.Errorf("Open %.80q with %d steps: %v; want %v", path, fuel, e, want)
	}
}

func callErrs(t testing.TB, m api.Machine, ih uint32, name string, args []uint32, fuel int, want api.Errno) {
	t.Helper()
	if _, _, _, e := call(t, m, ih, name, args, fuel); e != want {
		t.Errorf("Call %d %.40q with %d steps: %v; want %v", ih, name, fuel, e, want)
	}
}

func shutErrs(t testing.TB, m api.Machine, ih uint32, fuel int, want api.Errno) {
	t.Helper()
	if _, _, e := shut(t, m, ih, fuel); e != want {
		t.Errorf("Close %d with %d steps: %v; want %v", ih, fuel, e, want)
	}
}

// same: the machine isn't changed.
func same(*api.Machine) {}
