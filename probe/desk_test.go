package probe_test

import (
	"bytes"
	"fmt"
	"math/rand"
	"slices"
	"strings"
	"testing"

	"tinder/api"
	"tinder/dict"
	"tinder/fcc"
	"tinder/head"
	"tinder/probe"
)

// plenty is fuel that none of the programs that end by themselves uses up.
const plenty = 5000

// chance: the same one in each run.
func chance() *rand.Rand { return rand.New(rand.NewSource(23)) }

func seldom(r *rand.Rand, n int) bool { return r.Intn(n) == 0 }

func pick[T any](r *rand.Rand, l ...T) T { return l[r.Intn(len(l))] }

func cells(l ...uint32) []uint32 { return l }

// many: so many cells, 1 the lowest.
func many(n int) []uint32 {
	var l []uint32
	for i := range n {
		l = append(l, uint32(i+1))
	}
	return l
}

func alikeWord(a, b api.Word) bool {
	return a.Name == b.Name && a.Node == b.Node && a.Kind == b.Kind && a.N == b.N && slices.Equal(a.Code, b.Code)
}

func alikeProp(a, b api.Prop) bool { return a.Name == b.Name && bytes.Equal(a.Data, b.Data) }

func alikeNode(a, b api.Node) bool {
	return a.Name == b.Name && slices.Equal(a.Unit, b.Unit) && a.Parent == b.Parent &&
		slices.EqualFunc(a.Props, b.Props, alikeProp) && slices.Equal(a.Cells, b.Cells)
}

func alikeInst(a, b api.Inst) bool {
	return a.Node == b.Node && a.Parent == b.Parent && a.Args == b.Args && slices.Equal(a.Cells, b.Cells)
}

// alikeBut: the same machine but for its Codes, its lists nil or empty.
func alikeBut(a, b api.Machine) bool {
	return slices.Equal(a.Stack, b.Stack) && bytes.Equal(a.Mem, b.Mem) &&
		slices.EqualFunc(a.Words, b.Words, alikeWord) && a.Base == b.Base &&
		slices.EqualFunc(a.Tree, b.Tree, alikeNode) && a.Node == b.Node &&
		slices.EqualFunc(a.Insts, b.Insts, alikeInst) && a.Self == b.Self && a.Out == b.Out
}

// alike: the same machine.
func alike(a, b api.Machine) bool { return alikeBut(a, b) && slices.Equal(a.Codes, b.Codes) }

// isNone: the zero machine.
func isNone(m api.Machine) bool { return alike(m, api.Machine{}) }

func anew[T any](l []T) []T { return append(make([]T, 0, len(l)), l...) }

// twin: the same machine as new memory.
func twin(m api.Machine) api.Machine {
	m.Stack, m.Mem, m.Codes = anew(m.Stack), anew(m.Mem), anew(m.Codes)
	m.Words, m.Tree, m.Insts = anew(m.Words), anew(m.Tree), anew(m.Insts)
	for i := range m.Words {
		m.Words[i].Code = anew(m.Words[i].Code)
	}
	for i := range m.Tree {
		d := &m.Tree[i]
		d.Unit, d.Cells, d.Props = anew(d.Unit), anew(d.Cells), anew(d.Props)
		for k := range d.Props {
			d.Props[k].Data = anew(d.Props[k].Data)
		}
	}
	for i := range m.Insts {
		m.Insts[i].Cells = anew(m.Insts[i].Cells)
	}
	return m
}

// The devices of the desk, its words, and its instance.
const (
	bus    = 1
	disk   = 2
	onDesk = 3 // so many devices

	wValue = api.Prims
	wDefer = api.Prims + 1
	wSet   = api.Prims + 2

	onDisk = 1
)

// desk: a machine with some of everything, at work a device and an instance; made anew each time.
func desk() api.Machine {
	m := dict.New()
	m.Stack = cells(7, 8)
	m.Mem = []byte("\x00\x00\x00\x05hi")
	m.Codes = []int{-1, -1, -1, -1, -1, -1, -1, -1, -1, wValue, wDefer, wSet}
	m.Base = 10
	m.Out = "old "
	m.Tree = []api.Node{
		{Parent: -1, Props: []api.Prop{{Name: "model", Data: []byte("m\x00")}}},
		{Name: "slot", Unit: cells(1, 0), Parent: 0, Cells: cells(1)},
		{Name: "slot", Unit: cells(2), Parent: bus, Cells: cells(2, 3), Props: []api.Prop{{Name: "reg", Data: []byte{9, 8}}}},
	}
	m.Node = bus
	m.Insts = []api.Inst{{Node: -1, Parent: -1}, {Node: disk, Parent: -1, Args: "x", Cells: cells(30, 31)}}
	m.Self = onDisk
	m.Words = append(m.Words,
		api.Word{Name: "v", Node: -1, Kind: api.WValue, N: 5},
		api.Word{Name: "d", Node: -1, Kind: api.WDefer, N: 41},
		api.Word{Name: "set", Node: disk, Kind: api.WColon, Code: []api.Op{{Kind: api.OTo, N: wSet + 1}}},
		api.Word{Name: "c", Node: disk, Kind: api.WInst, N: 1},
	)
	return m
}

// with: the desk, changed.
func with(do func(m *api.Machine)) api.Machine {
	m := desk()
	do(&m)
	return m
}

// unlike: machines that are not formed, for one cause each.
func unlike() map[string]api.Machine {
	return map[string]api.Machine{
		"none":         {},
		"stack":        with(func(m *api.Machine) { m.Stack = many(api.MaxStack + 1) }),
		"memory":       with(func(m *api.Machine) { m.Mem = make([]byte, api.MaxMem+1) }),
		"words":        with(func(m *api.Machine) { m.Words = m.Words[1:] }),
		"many words":   with(func(m *api.Machine) { *m = wordy(*m, api.MaxWords+1) }),
		"codes":        with(func(m *api.Machine) { m.Codes[0] = len(m.Words) }),
		"base":         with(func(m *api.Machine) { m.Base = 1 }),
		"tree":         with(func(m *api.Machine) { m.Tree[0].Name = "x" }),
		"no tree":      with(func(m *api.Machine) { m.Tree = nil }),
		"node":         with(func(m *api.Machine) { m.Node = len(m.Tree) }),
		"node below":   with(func(m *api.Machine) { m.Node = -2 }),
		"cells":        with(func(m *api.Machine) { m.Insts[onDisk].Cells = nil }),
		"self":         with(func(m *api.Machine) { m.Self = 0 }),
		"self outside": with(func(m *api.Machine) { m.Self = len(m.Insts) }),
		"out":          with(func(m *api.Machine) { m.Out = strings.Repeat("x", api.MaxOut+1) }),
		// The next ones would be formed, with one device more.
		"node of the slot": with(func(m *api.Machine) { m.Node = onDesk }),
		"inst of the slot": with(func(m *api.Machine) { m.Insts[0] = api.Inst{Node: onDesk, Parent: -1} }),
		"word of the slot": with(func(m *api.Machine) {
			m.Words = append(m.Words, api.Word{Node: onDesk, Kind: api.WConst})
		}),
	}
}

// wordy: the machine with nameless words behind its own, so many in all.
func wordy(m api.Machine, n int) api.Machine {
	m.Words = slices.Clone(m.Words)
	for len(m.Words) < n {
		m.Words = append(m.Words, api.Word{Node: -1, Kind: api.WConst})
	}
	return m
}

// crowded: the machine with devices on its root behind its own, so many in all.
func crowded(m api.Machine, n int) api.Machine {
	m.Tree = slices.Clone(m.Tree)
	for len(m.Tree) < n {
		m.Tree = append(m.Tree, api.Node{Name: fmt.Sprint("n", len(m.Tree)), Parent: 0})
	}
	return m
}

// occupied: the machine with the devices of these slots on its root.
func occupied(m api.Machine, slots ...uint32) api.Machine {
	m.Tree = slices.Clone(m.Tree)
	for _, i := range slots {
		m.Tree = append(m.Tree, api.Node{Name: "slot", Unit: cells(i), Parent: 0})
	}
	return m
}

// rom: the program of a text.
func rom(t testing.TB, text string) []byte {
	t.Helper()
	b, e := fcc.Compile(text)
	if e != api.OK {
		t.Fatalf("%q: %v", text, e)
	}
	return b
}

// roms: those of texts; that of "" is none.
func roms(t testing.TB, texts ...string) [][]byte {
	t.Helper()
	l := make([][]byte, len(texts))
	for i, text := range texts {
		if text != "" {
			l[i] = rom(t, text)
		}
	}
	return l
}

// headed: the program of a body.
func headed(t testing.TB, body string) []byte {
	t.Helper()
	b, e := head.Make([]byte(body), true)
	if e != api.OK {
		t.Fatalf("%x: %v", body, e)
	}
	return b
}

// try: what Try answers, held against the rules that hold for each answer.
func try(t testing.TB, m api.Machine, i int, b []byte, fuel int) (api.Machine, api.Errno) {
	t.Helper()
	kept, bytesKept := twin(m), slices.Clone(b)
	y, e := probe.Try(m, i, b, fuel)
	if !alike(m, kept) || !bytes.Equal(b, bytesKept) {
		t.Fatalf("Try %d of %x: what is handed in is changed", i, b)
	}
	if e != api.OK && !isNone(y) {
		t.Fatalf("Try %d of %x: beside %v: %v", i, b, e, y)
	}
	if e == api.OK && !dict.Formed(y) {
		t.Fatalf("Try %d of %x: not formed: %v", i, b, y)
	}
	return y, e
}

// every: likewise of All.
func every(t testing.TB, m api.Machine, l [][]byte, fuel int) (api.Machine, []api.Errno, api.Errno) {
	t.Helper()
	kept, rowsKept := twin(m), twins(l)
	y, all, e := probe.All(m, l, fuel)
	if !alike(m, kept) || !slices.EqualFunc(l, rowsKept, bytes.Equal) {
		t.Fatalf("All of %x: what is handed in is changed", l)
	}
	if e != api.OK && (!isNone(y) || len(all) != 0) {
		t.Fatalf("All of %x: beside %v: %v, %v", l, e, all, y)
	}
	if e == api.OK && (!dict.Formed(y) || len(all) != len(l)) {
		t.Fatalf("All of %x: not formed, or with errors of %d slots: %v", l, len(all), y)
	}
	return y, all, e
}

// twins: the same rows as new memory.
func twins(l [][]byte) [][]byte {
	all := make([][]byte, len(l))
	for i, b := range l {
		all[i] = slices.Clone(b)
	}
	return all
}

// taken: is the slot taken, with the machine changed so, beside the new device?
func taken(t testing.TB, m api.Machine, i int, text string, change func(m *api.Machine, slot *api.Node)) {
	t.Helper()
	y, e := try(t, m, i, rom(t, text), plenty)
	want := twin(m)
	slot := api.Node{Name: "slot", Unit: cells(uint32(i))}
	at := len(want.Tree)
	want.Tree = append(want.Tree, slot)
	change(&want, &slot)
	want.Tree[at] = slot
	if e != api.OK || !alike(y, want) {
		t.Errorf("%q in %d: %v\n%s\nwant\n%s", text, i, e, told(y), told(want))
	}
}

// told: what of a machine isn't as on a new one.
func told(m api.Machine) string {
	if len(m.Words) < api.Prims {
		return "no words"
	}
	return fmt.Sprintf("stack %v, memory %q, words %v, codes %v, base %d, tree %v, node %d, instances %v, self %d, out %q", m.Stack, m.Mem, m.Words[api.Prims:], m.Codes, m.Base, m.Tree, m.Node, m.Insts, m.Self, m.Out)
}

// fails: is that the error of the slot?
func fails(t testing.TB, m api.Machine, i int, b []byte, fuel int, want api.Errno) {
	t.Helper()
	if _, e := try(t, m, i, b, fuel); e != want {
		t.Errorf("Try %d of %.40x with %d steps: %v; want %v", i, b, fuel, e, want)
	}
}

// refused: is that the error of all slots?
func refused(t testing.TB, m api.Machine, l [][]byte, fuel int) {
	t.Helper()
	if _, all, e := every(t, m, l, fuel); e != api.ErrArg {
		t.Errorf("All of %.40x with %d steps: %v, %v; want %v", l, fuel, all, e, api.ErrArg)
	}
}

// errorsOf: are these the errors of the slots? The machine.
func errorsOf(t testing.TB, m api.Machine, l [][]byte, fuel int, want ...api.Errno) api.Machine {
	t.Helper()
	y, all, e := every(t, m, l, fuel)
	if e != api.OK || !slices.Equal(all, want) {
		t.Errorf("All of %.40x with %d steps: %v, %v; want %v", l, fuel, all, e, want)
	}
	return y
}
