package dict_test

import (
	"math/rand"
	"slices"
	"strconv"
	"testing"

	"tinder/api"
	"tinder/dict"
)

// book keeps beside a machine where its names, its devices' names and its codes lead.
type book struct {
	names   map[string]int
	methods map[string]int
	codes   map[int]int
}

func key(node int, name string) string { return strconv.Itoa(node) + " " + name }

func newBook(t *testing.T) book {
	b := book{names: map[string]int{}, methods: map[string]int{}, codes: map[int]int{}}
	for n, p := range firstWords(t) {
		b.names[p.Name] = n
		b.codes[p.Code] = n
	}
	return b
}

// define: enters a word that was defined.
func (b book) define(w api.Word, n int) {
	if w.Name == "" {
		return
	}
	b.names[w.Name] = n
	if w.Node >= 0 {
		b.methods[key(w.Node, w.Name)] = n
	}
}

// compare: does all lead where the book says?
func (b book) compare(t *testing.T, m api.Machine) {
	t.Helper()
	for _, name := range []string{"", "a", "b", "dup", "x", "i", "fm/mod", "j", "A"} {
		want, is := b.names[name]
		if n, ok := dict.Find(m, name); n != want || ok != is {
			t.Fatalf("Find %q: %d, %v; want %d, %v", name, n, ok, want, is)
		}
		for node := -2; node < 6; node++ {
			want, is := b.methods[key(node, name)]
			if n, ok := dict.Method(m, node, name); n != want || ok != is {
				t.Fatalf("Method %d, %q: %d, %v; want %d, %v", node, name, n, ok, want, is)
			}
		}
	}
	for _, code := range []int{0, 0x19, 0x47, 0x2d5, 2047, 2048, 2049, 2050, 2051, 2099, 4095, 4096} {
		want, is := b.codes[code]
		if n, ok := dict.Code(m, code); n != want || ok != is {
			t.Fatalf("Code %d: %d, %v; want %d, %v", code, n, ok, want, is)
		}
	}
}

// P9.2: what was defined or bound last is found, and all else leads where it led; P9.1: what comes of it is formed.
func TestNewestCounts(t *testing.T) {
	r := rand.New(rand.NewSource(9))
	for range 20 {
		m, b := dict.New(), newBook(t)
		m.Tree = devices()
		for range 60 {
			if r.Intn(2) == 0 {
				w := api.Word{
					Name: []string{"", "a", "b", "dup", "x", "fm/mod"}[r.Intn(6)], Node: r.Intn(5) - 1, Kind: api.WConst + r.Intn(3), N: r.Uint32(),
				}
				y, n, e := dict.Define(m, w)
				if e != api.OK || n != len(m.Words) {
					t.Fatalf("Define %v: %d, %v", w, n, e)
				}
				m = y
				b.define(w, n)
			} else {
				code, xt := []int{2048, 2049, 2050, 2099, 4095}[r.Intn(5)], r.Intn(len(m.Words))
				y, e := dict.Bind(m, code, xt)
				if e != api.OK {
					t.Fatalf("Bind %d, %d: %v", code, xt, e)
				}
				m = y
				b.codes[code] = xt
			}
			if !dict.Formed(m) {
				t.Fatalf("not formed: %v", m)
			}
			b.compare(t, m)
		}
	}
}

// P9.1: every machine is formed from New on, word by word, till there are as many as there may be.
func TestDefineTillFull(t *testing.T) {
	m := dict.New()
	for n := api.Prims; n < api.MaxWords; n++ {
		y, at, e := dict.Define(m, api.Word{Name: "w" + strconv.Itoa(n), Node: -1, Kind: api.WDefer, N: uint32(n)})
		if at != n || e != api.OK || !dict.Formed(y) {
			t.Fatalf("the word %d: %d, %v", n, at, e)
		}
		m = y
	}
	if y, n, e := dict.Define(m, api.Word{Name: "x", Node: -1, Kind: api.WConst}); !isNone(y) || n != 0 || e != api.ErrMany {
		t.Errorf("one more: %d, %v", n, e)
	}
	if n, ok := dict.Find(m, "w639"); n != 639 || !ok {
		t.Errorf("the last: %d, %v", n, ok)
	}
}

// ends: is every way from parent to parent over alive ones, told by taking away those whose parent is away already?
func ends(l []api.Inst) bool {
	away := map[int]int{-1: 1}
	for range l {
		for i, x := range l {
			if x.Node >= 0 && away[x.Parent] == 1 {
				away[i] = 1
			}
		}
	}
	for i, x := range l {
		if x.Node < 0 && (x.Node != -1 || x.Parent != -1) || x.Node >= 0 && away[i] == 0 {
			return false
		}
	}
	return true
}

// P9.1: all rows of few instances, free and alive, are formed just where their ways end, and Self where it is alive.
func TestInstancesEnd(t *testing.T) {
	var add func(l []api.Inst, most int)
	add = func(l []api.Inst, most int) {
		for self := -2; self <= len(l); self++ {
			m := dict.New()
			m.Insts, m.Self = l, self
			want := ends(l) && (self == -1 || self >= 0 && self < len(l) && l[self].Node == 0)
			if got := dict.Formed(m); got != want {
				t.Fatalf("%v, self %d: %v; want %v", l, self, got, want)
			}
		}
		if len(l) == most {
			return
		}
		for node := -2; node <= 0; node++ {
			for parent := -2; parent <= most; parent++ {
				add(append(slices.Clone(l), api.Inst{Node: node, Parent: parent}), most)
			}
		}
	}
	add(nil, 3)
}

// P9.1: a machine is formed with a word behind its words just where Define takes it.
func TestDefineIsFormed(t *testing.T) {
	before := whole()
	for kind := 0; kind <= 8; kind++ {
		for node := -2; node <= 4; node++ {
			for _, n := range []uint32{0, 1, 2, words, words + 1} {
				for _, name := range []string{"", "a", "A"} {
					for _, code := range [][]api.Op{nil, {{Kind: api.OCall, N: words}}, {{Kind: api.OTo, N: words + 1}}} {
						w := api.Word{Name: name, Node: node, Kind: kind, N: n, Code: code}
						after := whole()
						after.Words = append(after.Words, w)
						m, at, e := dict.Define(before, w)
						if !dict.Formed(after) {
							if !isNone(m) || at != 0 || e != api.ErrArg {
								t.Fatalf("%v: %d, %v; want ErrArg", w, at, e)
							}
						} else if !alike(m, after) || at != words || e != api.OK {
							t.Fatalf("%v: %d, %v", w, at, e)
						}
					}
				}
			}
		}
	}
}

// twin: the same machine as new memory, made without the package's own Copy, which it is held against.
func twin(m api.Machine) api.Machine {
	m.Stack, m.Mem, m.Codes = anew(m.Stack), anew(m.Mem), anew(m.Codes)
	m.Words, m.Tree, m.Insts = anew(m.Words), anew(m.Tree), anew(m.Insts)
	for i := range m.Words {
		m.Words[i].Code = anew(m.Words[i].Code)
	}
	for i := range m.Tree {
		d := &m.Tree[i]
		d.Unit, d.Cells, d.Props = anew(d.Unit), anew(d.Cells), anew(d.Props)
		for k := range d.Props {
			d.Props[k].Data = anew(d.Props[k].Data)
		}
	}
	for i := range m.Insts {
		m.Insts[i].Cells = anew(m.Insts[i].Cells)
	}
	return m
}

func anew[T any](l []T) []T {
	all := make([]T, len(l))
	copy(all, l)
	return all
}

// spared: a list like l with spare room behind it, which is marked.
func spared[T any](l []T, mark T) []T {
	all := append(slices.Clone(l), mark, mark)
	return all[:len(l)]
}

// sparedMachine: m with marked spare room behind each of its lists.
func sparedMachine(m api.Machine) api.Machine {
	m = twin(m)
	m.Stack, m.Mem, m.Codes = spared(m.Stack, 77), spared(m.Mem, 77), spared(m.Codes, 77)
	m.Words, m.Tree, m.Insts = spared(m.Words, api.Word{N: 77}), spared(m.Tree, api.Node{Parent: 77}), spared(m.Insts, api.Inst{Node: 77})
	for i := range m.Words {
		m.Words[i].Code = spared(m.Words[i].Code, api.Op{N: 77})
	}
	for i := range m.Tree {
		d := &m.Tree[i]
		d.Unit, d.Cells, d.Props = spared(d.Unit, 77), spared(d.Cells, 77), spared(d.Props, api.Prop{Name: "mark"})
		for k := range d.Props {
			d.Props[k].Data = spared(d.Props[k].Data, 77)
		}
	}
	for i := range m.Insts {
		m.Insts[i].Cells = spared(m.Insts[i].Cells, 77)
	}
	return m
}

// all: the list with its spare room.
func all[T any](l []T) []T { return l[:cap(l)] }

// opened: m with the spare room of each of its lists laid open, as a machine of its own.
func opened(m api.Machine) api.Machine {
	m.Stack, m.Mem, m.Codes = all(m.Stack), all(m.Mem), all(m.Codes)
	m.Words, m.Tree, m.Insts = all(m.Words), all(m.Tree), all(m.Insts)
	return twin(m)
}

// room: what lies in the spare room of the lists within m's lists.
func room(m api.Machine) []uint32 {
	var l []uint32
	for _, w := range m.Words {
		for _, o := range all(w.Code)[len(w.Code):] {
			l = append(l, o.N)
		}
	}
	for _, d := range m.Tree {
		l = append(l, all(d.Unit)[len(d.Unit):]...)
		l = append(l, all(d.Cells)[len(d.Cells):]...)
		l = append(l, uint32(len(all(d.Props)[len(d.Props)].Name)))
		for _, p := range d.Props {
			l = append(l, uint32(all(p.Data)[len(p.Data)]))
		}
	}
	for _, x := range m.Insts {
		l = append(l, all(x.Cells)[len(x.Cells):]...)
	}
	return l
}

// scribble: writes over all that m's lists hold, spare room and all.
func scribble(m api.Machine) {
	for _, w := range m.Words {
		for i := range all(w.Code) {
			all(w.Code)[i].N ^= 1 << 30
		}
	}
	for _, d := range m.Tree {
		for i := range all(d.Unit) {
			all(d.Unit)[i] ^= 1 << 30
		}
		for i := range all(d.Cells) {
			all(d.Cells)[i] ^= 1 << 30
		}
		for _, p := range d.Props {
			for i := range all(p.Data) {
				all(p.Data)[i] ^= 1
			}
		}
		for i := range all(d.Props) {
			all(d.Props)[i].Name += "!"
		}
	}
	for _, x := range m.Insts {
		for i := range all(x.Cells) {
			all(x.Cells)[i] ^= 1 << 30
		}
	}
	scribbleTop(m)
}

// scribbleTop: likewise over m's own lists alone.
func scribbleTop(m api.Machine) {
	for i := range all(m.Stack) {
		all(m.Stack)[i] ^= 1 << 30
	}
	for i := range all(m.Mem) {
		all(m.Mem)[i] ^= 1
	}
	for i := range all(m.Codes) {
		all(m.Codes)[i] ^= 1 << 30
	}
	for i := range all(m.Words) {
		all(m.Words)[i].N ^= 1 << 30
	}
	for i := range all(m.Tree) {
		all(m.Tree)[i].Parent ^= 1 << 30
	}
	for i := range all(m.Insts) {
		all(m.Insts)[i].Parent ^= 1 << 30
	}
}

// P1: what is handed in is left as it was, spare room and all, and shares no memory with a machine that is answered.
func TestNothingIsChangedOrShared(t *testing.T) {
	w := api.Word{Name: "x", Node: 2, Kind: api.WColon, Code: spared(ops(words), api.Op{N: 77})}
	for name, call := range map[string]func(m api.Machine) api.Machine{
		"Copy":          dict.Copy,
		"Define":        func(m api.Machine) api.Machine { y, _, _ := dict.Define(m, w); return y },
		"Bind within":   func(m api.Machine) api.Machine { y, _ := dict.Bind(m, 2049, 3); return y },
		"Bind behind":   func(m api.Machine) api.Machine { y, _ := dict.Bind(m, 2052, 3); return y },
		"Define wrong":  func(m api.Machine) api.Machine { y, _, _ := dict.Define(m, api.Word{}); return y },
		"Bind wrong":    func(m api.Machine) api.Machine { y, _ := dict.Bind(m, 1, 3); return y },
		"Formed":        func(m api.Machine) api.Machine { dict.Formed(m); return api.Machine{} },
		"Find and Code": func(m api.Machine) api.Machine { dict.Find(m, "sq"); dict.Code(m, 2049); return api.Machine{} },
	} {
		m := sparedMachine(whole())
		top, within := opened(m), room(m)
		unchanged := func() bool { return alike(opened(m), top) && slices.Equal(room(m), within) }
		one := call(m)
		if !unchanged() {
			t.Errorf("%s changes its argument", name)
		}
		two := call(m)
		kept := twin(two)
		scribble(one)
		if !unchanged() {
			t.Errorf("%s: its answer shares memory with its argument", name)
		}
		if !alike(two, kept) {
			t.Errorf("%s: two answers share memory", name)
		}
		scribble(m)
		if !alike(two, kept) {
			t.Errorf("%s keeps its argument", name)
		}
	}
	if !slices.Equal(all(w.Code)[:13], ops(words)) || all(w.Code)[13].N != 77 {
		t.Error("a word that is defined is changed")
	}
}

// P1: the word that is defined is new memory; so are the words of New and Prims, each time.
func TestAnswersAreNew(t *testing.T) {
	w := api.Word{Name: "x", Node: 2, Kind: api.WColon, Code: ops(words)}
	m, _, _ := dict.Define(whole(), w)
	w.Code[0].N = 5
	if !slices.Equal(m.Words[words].Code, ops(words)) {
		t.Error("the machine keeps the word's code")
	}
	dict.Prims()[41] = api.Prim{Name: "x"}
	if p := dict.Prims()[41]; p.Name != "dup" || p.Code != 0x47 {
		t.Errorf("Prims are kept: %v", p)
	}
	m = dict.New()
	m.Words[41].Name, m.Tree[0].Name = "x", "x"
	if y := dict.New(); y.Words[41].Name != "dup" || y.Tree[0].Name != "" {
		t.Error("New is kept")
	}
}
