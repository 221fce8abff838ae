package inner_test

import (
	"math"
	"math/rand"
	"slices"
	"strings"
	"testing"

	"tinder/api"
	"tinder/dict"
	"tinder/inner"
)

// A scribe writes random machines, whose words mostly do something that isn't refused.
type scribe struct {
	r *rand.Rand
	m api.Machine
}

// names are those that words, devices and properties have; they lie at the memory's beginning.
const names = "abc"

func (s *scribe) one(l ...uint32) uint32 { return l[s.r.Intn(len(l))] }

// number: one that may mean something somewhere.
func (s *scribe) number() uint32 {
	return s.one(0, 1, 2, 3, 4, 5, 8, 10, 16, 37, 64, 255, minus(1), minus(2), minus(3), 1<<31, 1<<31-1, s.r.Uint32(), uint32(len(s.m.Mem)), uint32(s.r.Intn(len(s.m.Mem)+1)), uint32(s.r.Intn(len(s.m.Words))))
}

func (s *scribe) first(name ...string) api.Op { return call(s.m, name[s.r.Intn(len(name))]) }

// name: where a name lies, and its length.
func (s *scribe) name() []api.Op {
	if s.r.Intn(12) == 0 {
		return []api.Op{lit(s.number()), lit(s.number())}
	}
	return []api.Op{lit(uint32(s.r.Intn(len(names)))), lit(1)}
}

// stretch: some bytes of the memory.
func (s *scribe) stretch() []api.Op {
	if s.r.Intn(12) == 0 {
		return []api.Op{lit(s.number()), lit(s.number())}
	}
	at := s.r.Intn(len(s.m.Mem))
	return []api.Op{lit(uint32(at)), lit(uint32(s.r.Intn(min(20, len(s.m.Mem)-at+1))))}
}

func (s *scribe) xt() api.Op { return lit(uint32(s.r.Intn(len(s.m.Words)))) }

// later: a word behind the first ones.
func (s *scribe) later() uint32 {
	return uint32(api.Prims + s.r.Intn(len(s.m.Words)-api.Prims))
}

// phrase: some instructions that belong together, for the place at.
func (s *scribe) phrase(at uint32) []api.Op {
	switch s.r.Intn(23) {
	case 0, 1:
		return []api.Op{lit(s.number()), lit(s.number())}
	case 2:
		return []api.Op{lit(s.number()), lit(s.number()), lit(s.number()), {Kind: api.OCall, N: uint32(s.r.Intn(api.Prims))}}
	case 3:
		return []api.Op{{Kind: api.OCall, N: uint32(s.r.Intn(api.Prims))}}
	case 4:
		return []api.Op{{Kind: api.OCall, N: s.later()}}
	case 5:
		return []api.Op{lit(s.later()), s.first("catch", "catch", "execute")}
	case 6:
		return []api.Op{s.xt(), s.first("catch", "catch", "execute")}
	case 7:
		return append(s.name(), lit(uint32(s.r.Intn(6))), s.first("$call-method"))
	case 8:
		return append(append(s.stretch(), s.name()...), s.first("property", "property", "encode+"))
	case 9:
		return append(s.name(), s.first("get-my-property", "delete-property"))
	case 10:
		unit := []api.Op{lit(s.number()), lit(s.number()), lit(s.number()), lit(s.number())}[:s.r.Intn(5)]
		return append(append(append(unit, lit(uint32(len(unit)))), s.name()...), s.first("new-device"))
	case 11:
		return []api.Op{s.first("finish-device", "my-parent", "my-self", "here", "depth", "cr", "r>", "r@", "i", "j", "unloop")}
	case 12:
		return append(s.stretch(), s.first("type", "encode-string", "decode-int", "decode-string"))
	case 13:
		return []api.Op{lit(s.number()), s.first("encode-int", "alloc-mem", ".", "u.", "emit", "base!", "throw", ">r", "lbsplit")}
	case 14:
		addr := lit(uint32(s.r.Intn(len(s.m.Mem)/4+1) * 4))
		return []api.Op{lit(s.number()), addr, s.first("!", "w!", "c!", "+!", "@", "w@", "c@")}
	case 15:
		return append(s.stretch(), lit(s.number()), s.first("fill", "move", "comp"))
	case 16:
		return []api.Op{lit(s.number()), {Kind: api.OTo, N: s.later()}}
	case 17:
		return s.loop(at)
	case 18:
		return []api.Op{lit(s.number()), s.first(">r"), {Kind: api.OCall, N: uint32(s.r.Intn(api.Prims))}, s.first("r>", "r>", "r@", "i")}
	case 19:
		return []api.Op{lit(1), lit(2), lit(3), s.first(">r"), s.first(">r"), s.first(">r"), s.first("j", "unloop", "i"), s.first("r>"), s.first("unloop", "r>")}
	case 20:
		return []api.Op{lit(1), lit(2), lit(3), lit(4), lit(5), lit(6), lit(s.one(0, 1, 2, 3, 4, 5)), s.first("pick", "roll", "2rot", "2over", "throw", "drop")}
	case 21:
		return []api.Op{lit(s.number()), lit(s.one(0, 0, 1, 2, minus(1))), lit(s.one(3, 7, 1<<30, minus(3), s.number())), s.first("um/mod", "sm/rem", "fm/mod", "2drop")}
	}
	kind := []int{api.OBranch, api.OZero, api.OOf, api.ODrop, api.OExit, api.OLeave, api.OQDo, api.OLoop, api.OPlus}[s.r.Intn(9)]
	o := api.Op{Kind: kind, N: at + uint32(s.r.Intn(4))}
	if kind == api.ODrop || kind == api.OExit {
		o.N = 0
	}
	return []api.Op{o}
}

// loop: a short loop with a phrase or none in it.
func (s *scribe) loop(at uint32) []api.Op {
	var body []api.Op
	if s.r.Intn(3) > 0 {
		body = s.phrase(at + 3)
	}
	from := s.number()
	end := at + 4 + uint32(len(body))
	l := []api.Op{lit(from + uint32(s.r.Intn(5)) - 1), lit(from), {Kind: api.ODo + s.r.Intn(2), N: end}}
	if s.r.Intn(2) == 0 {
		return append(append(l, body...), api.Op{Kind: api.OLoop, N: at + 3})
	}
	return append(append(append(l, body...), lit(uint32(s.r.Intn(7)-3))), api.Op{Kind: api.OPlus, N: at + 3})
}

// code: some phrases, all branches leading to within.
func (s *scribe) code() []api.Op {
	var l []api.Op
	for range s.r.Intn(8) {
		l = append(l, s.phrase(uint32(len(l)))...)
	}
	for i, o := range l {
		if o.Kind != api.OLit && o.Kind != api.OCall && o.Kind != api.OTo {
			l[i].N = min(o.N, uint32(len(l)))
		}
	}
	return l
}

// machine: one with some of everything.
func (s *scribe) machine(t *testing.T) api.Machine {
	s.m = dict.New()
	m := &s.m
	m.Mem = append([]byte(names), make([]byte, []int{1, 20, 61, 300, 4000, 4093}[s.r.Intn(6)])...)
	for i := range 40 {
		if i+3 < len(m.Mem) {
			m.Mem[i+3] = byte(s.one(0, 0, 1, 97, 255))
		}
	}
	m.Base = s.one(2, 10, 16, 36)
	m.Tree = []api.Node{
		{Parent: -1, Cells: cells(1)},
		{Name: "a", Parent: 0, Cells: cells(2, 3), Props: []api.Prop{{Name: "b", Data: []byte{1, 2, 0}}, {Name: "c"}}},
		{Name: "a", Unit: cells(1, 2), Parent: 1},
	}
	m.Insts = []api.Inst{{Node: 1, Parent: 3, Args: "x", Cells: cells(4, 5)}, {Node: -1, Parent: -1}, {Node: 2, Parent: 0}, {Node: 0, Parent: -1, Cells: cells(6)}, {Node: 1, Parent: -1, Cells: cells(7, 8)}}
	m.Node, m.Self = s.r.Intn(4)-1, []int{-1, 0, 2, 3, 4}[s.r.Intn(5)]
	m.Out = strings.Repeat("x", int(s.one(0, 0, 0, 1010, 1024)))
	m.Stack = many(int(s.one(0, 3, 6, 10, 20, 30, 61, 63, 64)))
	kinds := []int{api.WConst, api.WValue, api.WVar, api.WDefer, api.WDefer, api.WInst, api.WInst, api.WColon, api.WColon, api.WColon, api.WColon, api.WColon, api.WColon}
	for _, kind := range kinds {
		m.Words = append(m.Words, api.Word{Name: names[s.r.Intn(3):][:1], Node: s.r.Intn(4) - 1, Kind: kind})
	}
	for i := api.Prims; i < len(m.Words); i++ {
		w := &m.Words[i]
		switch w.Kind {
		case api.WColon:
			w.Code = s.code()
		case api.WDefer:
			w.N = uint32(s.r.Intn(len(m.Words)))
		case api.WInst:
			w.Node = 1
			w.N = uint32(s.r.Intn(2))
		default:
			w.N = s.number()
		}
	}
	if !dict.Formed(*m) {
		t.Fatalf("not formed: %v", *m)
	}
	return *m
}

// P11.1: random words on random machines do what the model does; what comes of them is formed, and what is handed in stays (run asks both).
// P11.2: a run that ends with some fuel ends so with just as much as it takes, with more by as much more left, and with less for want of fuel.
func TestAgainstModel(t *testing.T) {
	s := &scribe{r: rand.New(rand.NewSource(11))}
	ran, ends := map[string]int{}, map[api.Errno]int{}
	for range 2000 {
		m := s.machine(t)
		for range 6 {
			xt, fuel := int(s.later()), s.r.Intn(700)
			x := model{m: twin(m), fuel: fuel, ran: ran}
			want := x.run(xt)
			ends[want]++
			held(t, m, xt, fuel, x, want)
			if want != api.ErrFuel {
				fuelled(t, m, xt, fuel-x.fuel, x, want)
			}
		}
	}
	for _, p := range dict.Prims() {
		if ran[p.Name] < 5 {
			t.Errorf("%s was run without an error only %d times", p.Name, ran[p.Name])
		}
	}
	for _, e := range []api.Errno{
		api.OK, api.ErrArg, api.ErrNone, api.ErrRange, api.ErrUnder, api.ErrOver, api.ErrZero, api.ErrAlign, api.ErrAddr, api.ErrRoom, api.ErrFuel, api.ErrRet, api.ErrWord,
		api.ErrText, api.ErrOut, api.ErrNode, api.ErrExist, api.ErrSelf, api.ErrMethod, api.ErrThrow,
	} {
		if ends[e] < 5 {
			t.Errorf("%v ended a run only %d times", e, ends[e])
		}
	}
}

// held: does the run answer what the model came to?
func held(t *testing.T, m api.Machine, xt, fuel int, x model, want api.Errno) {
	t.Helper()
	y, left, e := run(t, m, xt, fuel)
	n, _ := inner.Thrown(m, xt, fuel)
	if e != want || e == api.ErrThrow && n != x.thrown {
		t.Fatalf("the word %d with %d steps: %v, %d; want %v, %d\n%v", xt, fuel, e, n, want, x.thrown, m)
	}
	if e == api.OK && (left != x.fuel || !alike(y, x.m)) {
		t.Fatalf("the word %d with %d steps: %d left, %v; want %d left, %v\n%v", xt, fuel, left, y, x.fuel, x.m, m)
	}
}

// fuelled: is it so with the steps that the run takes, and more, and is it ErrFuel with less?
func fuelled(t *testing.T, m api.Machine, xt, steps int, x model, want api.Errno) {
	t.Helper()
	for _, more := range []int{0, 1, api.MaxFuel - steps} {
		x.fuel = more
		held(t, m, xt, steps+more, x, want)
	}
	for _, fuel := range []int{steps - 1, steps / 2} {
		if _, _, e := run(t, m, xt, fuel); e != api.ErrFuel {
			t.Fatalf("the word %d takes %d steps, but with %d: %v\n%v", xt, steps, fuel, e, m)
		}
	}
}

// P11.1: each first word, run by itself on stacks of numbers that mean something, does what the model does.
func TestFirstWordsAgainstModel(t *testing.T) {
	s := &scribe{r: rand.New(rand.NewSource(12))}
	for range 40 {
		m := s.machine(t)
		for xt := range api.Prims {
			for range 3 {
				l := many(s.r.Intn(5))
				if s.r.Intn(4) == 0 {
					l = many(64 - s.r.Intn(7))
				}
				for i := max(0, len(l)-6); i < len(l); i++ {
					l[i] = s.number()
				}
				m.Stack = l
				x := model{m: twin(m), fuel: 300, ran: map[string]int{}}
				want := x.run(xt)
				held(t, m, xt, 300, x, want)
			}
		}
	}
}

// P11.1: what may be stored into each word, by To, as the model does it.
func TestToAgainstModel(t *testing.T) {
	s := &scribe{r: rand.New(rand.NewSource(13))}
	for range 60 {
		m := s.machine(t)
		for n := range m.Words {
			m.Stack = many(s.r.Intn(3))
			for i := range m.Stack {
				m.Stack[i] = s.number()
			}
			x := model{m: twin(m)}
			want := x.try(func() { x.to(n) })
			y, e := inner.To(m, n)
			if e != want || e == api.OK && (!alike(y, x.m) || !dict.Formed(y)) || e != api.OK && !isNone(y) {
				t.Fatalf("To %d: %v, %v; want %v\n%v", n, y.Stack, e, want, m)
			}
		}
	}
}

// twin: the same machine as new memory.
func twin(m api.Machine) api.Machine {
	m.Stack, m.Mem, m.Codes = anew(m.Stack), anew(m.Mem), anew(m.Codes)
	m.Words, m.Tree, m.Insts = anew(m.Words), anew(m.Tree), anew(m.Insts)
	for i := range m.Words {
		m.Words[i].Code = anew(m.Words[i].Code)
	}
	for i := range m.Tree {
		d := &m.Tree[i]
		d.Unit, d.Cells, d.Props = anew(d.Unit), anew(d.Cells), anew(d.Props)
		for k := range d.Props {
			d.Props[k].Data = anew(d.Props[k].Data)
		}
	}
	for i := range m.Insts {
		m.Insts[i].Cells = anew(m.Insts[i].Cells)
	}
	return m
}

func anew[T any](l []T) []T { return append(make([]T, 0, len(l)), l...) }

// spared: a list like l with spare room behind it, which is marked.
func spared[T any](l []T, mark T) []T {
	all := append(slices.Clone(l), mark, mark)
	return all[:len(l)]
}

// sparedMachine: m with marked spare room behind each of its lists.
func sparedMachine(m api.Machine) api.Machine {
	m = twin(m)
	m.Stack, m.Mem, m.Codes = spared(m.Stack, 77), spared(m.Mem, 77), spared(m.Codes, 77)
	m.Words, m.Tree, m.Insts = spared(m.Words, api.Word{N: 77}), spared(m.Tree, api.Node{Parent: 77}), spared(m.Insts, api.Inst{Node: 77})
	for i := range m.Words {
		m.Words[i].Code = spared(m.Words[i].Code, api.Op{N: 77})
	}
	for i := range m.Tree {
		d := &m.Tree[i]
		d.Unit, d.Cells, d.Props = spared(d.Unit, 77), spared(d.Cells, 77), spared(d.Props, api.Prop{Name: "mark"})
		for k := range d.Props {
			d.Props[k].Data = spared(d.Props[k].Data, 77)
		}
	}
	for i := range m.Insts {
		m.Insts[i].Cells = spared(m.Insts[i].Cells, 77)
	}
	return m
}

// all: the list with its spare room.
func all[T any](l []T) []T { return l[:cap(l)] }

// opened: m with the spare room of each of its lists laid open, as a machine of its own.
func opened(m api.Machine) api.Machine {
	m.Stack, m.Mem, m.Codes = all(m.Stack), all(m.Mem), all(m.Codes)
	m.Words, m.Tree, m.Insts = all(m.Words), all(m.Tree), all(m.Insts)
	m = twin(m)
	for i := range m.Words {
		m.Words[i].Code = all(m.Words[i].Code)
	}
	return m
}

// room: what lies in the spare room of the lists within m's lists.
func room(m api.Machine) []uint32 {
	var l []uint32
	for _, w := range m.Words {
		for _, o := range all(w.Code)[len(w.Code):] {
			l = append(l, o.N)
		}
	}
	for _, d := range m.Tree {
		l = append(l, all(d.Unit)[len(d.Unit):]...)
		l = append(l, all(d.Cells)[len(d.Cells):]...)
		for _, p := range all(d.Props)[len(d.Props):] {
			l = append(l, uint32(len(p.Name)))
		}
		for _, p := range d.Props {
			for _, b := range all(p.Data)[len(p.Data):] {
				l = append(l, uint32(b))
			}
		}
	}
	for _, x := range m.Insts {
		l = append(l, all(x.Cells)[len(x.Cells):]...)
	}
	return l
}

// overwrite: each number of a list, spare room and all.
func overwrite[T uint32 | int](l []T) {
	for i := range all(l) {
		all(l)[i] ^= 1 << 30
	}
}

// scribble: writes over all that m's lists hold, spare room and all.
func scribble(m api.Machine) {
	for _, w := range m.Words {
		for i := range all(w.Code) {
			all(w.Code)[i].N ^= 1 << 30
		}
	}
	for _, d := range m.Tree {
		overwrite(d.Unit)
		overwrite(d.Cells)
		for _, p := range d.Props {
			for i := range all(p.Data) {
				all(p.Data)[i] ^= 1
			}
		}
		for i := range all(d.Props) {
			all(d.Props)[i].Name += "!"
		}
	}
	for _, x := range m.Insts {
		overwrite(x.Cells)
	}
	overwrite(m.Stack)
	overwrite(m.Codes)
	for i := range all(m.Mem) {
		all(m.Mem)[i] ^= 1
	}
	for i := range all(m.Words) {
		all(m.Words)[i].N ^= 1 << 30
	}
	for i := range all(m.Tree) {
		all(m.Tree)[i].Parent ^= 1 << 30
	}
	for i := range all(m.Insts) {
		all(m.Insts)[i].Parent ^= 1 << 30
	}
}

// P1: what is handed in is left as it was, spare room and all, and shares no memory with a machine that is answered; nothing is kept from call to call.
func TestNothingIsChangedOrShared(t *testing.T) {
	m := known(t, holding(as(atWork(desk(), disk), onDisk), 1, 2), "nothing", "errs drop drop drop",
		"much 9 to:v 'k to:d 8 to:c 65 emit 0x31323334 0 ! 16 base! 6 1 8 3 new-device 2 alloc-mem 5 encode-int 11 2 property finish-device 8 3 delete-property 3 1 do i loop 'errs catch 11 2 5 $call-method 1 >r r>")
	for _, name := range []string{"nothing", "much", "errs", "dup", "drop", "k", "v", "c", "d", "!", "new-device", "finish-device", "catch", "swap", "over"} {
		shares(t, name, m, func(m api.Machine) api.Machine { y, _, _ := inner.Run(m, find(m, name), plenty); return y })
	}
	shares(t, "Thrown", m, func(m api.Machine) api.Machine { inner.Thrown(m, find(m, "much"), plenty); return api.Machine{} })
	for _, n := range []int{wConst, wValue, wDefer, wInst} {
		shares(t, "To "+m.Words[n].Name, m, func(m api.Machine) api.Machine { y, _ := inner.To(m, n); return y })
	}
}

func shares(t *testing.T, name string, start api.Machine, do func(m api.Machine) api.Machine) {
	m := sparedMachine(start)
	top, within := opened(m), room(m)
	unchanged := func() bool { return alike(opened(m), top) && slices.Equal(room(m), within) }
	one := do(m)
	if !unchanged() {
		t.Errorf("%s changes its argument", name)
	}
	two := do(m)
	kept := twin(two)
	if !alike(one, two) {
		t.Errorf("%s answers otherwise the second time", name)
	}
	scribble(one)
	if !unchanged() {
		t.Errorf("%s: its answer shares memory with its argument", name)
	}
	if !alike(two, kept) {
		t.Errorf("%s: two answers share memory", name)
	}
	scribble(m)
	if !alike(two, kept) {
		t.Errorf("%s keeps its argument", name)
	}
}

// P1: whatever is handed in, the calls end and don't panic.
func TestAnyArguments(t *testing.T) {
	for _, m := range append(notFormed(), desk(), holding(desk(), many(api.MaxStack)...)) {
		for _, n := range []int{math.MinInt, -1, 0, 41, wSelf, deskWords, math.MaxInt} {
			for _, fuel := range []int{math.MinInt, -1, 0, 1, api.MaxFuel, math.MaxInt} {
				inner.Run(m, n, fuel)
				inner.Thrown(m, n, fuel)
			}
			inner.To(m, n)
		}
	}
}
