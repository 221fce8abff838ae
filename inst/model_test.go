package inst_test

import (
	"slices"
	"strings"

	"tinder/api"
	"tinder/dict"
	"tinder/inner"
	"tinder/prop"
)

// A box is an instance, told by itself, wherever it lies.
type box struct {
	node  int
	under *box // what it stands on
	args  string
	cells []uint32
}

// A model does what the calls do with boxes on shelves, and lays them out as instances only where a method is run and in the end. It is given up by a panic with an error.
type model struct {
	m       api.Machine // but for its instances
	shelves []*box      // nil where none lies
	self    *box
	fuel    int
}

func newModel(m api.Machine, fuel int) *model {
	x := &model{m: twin(m), fuel: fuel, shelves: make([]*box, len(m.Insts))}
	for i, d := range m.Insts {
		if d.Node >= 0 {
			x.shelves[i] = &box{node: d.Node, args: d.Args, cells: anew(d.Cells)}
		}
	}
	for i, d := range m.Insts {
		if d.Parent >= 0 {
			x.shelves[i].under = x.shelves[d.Parent]
		}
	}
	if m.Self >= 0 {
		x.self = x.shelves[m.Self]
	}
	return x
}

// number: of the shelf on which it lies; -1 of none, or one that lies on none.
func (x *model) number(b *box) int {
	if b == nil {
		return -1
	}
	return slices.Index(x.shelves, b)
}

// laid: the machine with what lies on the shelves, one of it being at work.
func (x *model) laid(self *box) api.Machine {
	m := twin(x.m)
	m.Insts, m.Self = nil, x.number(self)
	for _, b := range x.shelves {
		if b == nil {
			m.Insts = append(m.Insts, api.Inst{Node: -1, Parent: -1})
			continue
		}
		m.Insts = append(m.Insts, api.Inst{Node: b.node, Parent: x.number(b.under), Args: b.args, Cells: anew(b.cells)})
	}
	return m
}

// over: the machine in the end.
func (x *model) over() api.Machine { return x.laid(x.self) }

// method: the newest word of the box's device, told from the newest on.
func (x *model) method(b *box, name string) (int, bool) {
	for n, w := range slices.Backward(x.m.Words) {
		if name != "" && w.Node == b.node && w.Name == name {
			return n, true
		}
	}
	return 0, false
}

func (x *model) run(b *box, xt int) {
	m, left, e := inner.Run(x.laid(b), xt, x.fuel)
	if e != api.OK {
		panic(e)
	}
	x.m, x.fuel = m, left
	for i, d := range m.Insts {
		if x.shelves[i] != nil {
			x.shelves[i].cells = d.Cells
		}
	}
}

// step: the device to which a text between two marks leads, and its arguments.
func (x *model) step(from int, text string) (int, string) {
	text, args, _ := strings.Cut(text, ":")
	name, address, addressed := strings.Cut(text, "@")
	if !prop.Named(name) {
		panic(api.ErrText)
	}
	var unit []uint32
	if addressed {
		var e api.Errno
		if unit, e = prop.ParseUnit(address); e != api.OK {
			panic(api.ErrText)
		}
	}
	for n, d := range x.m.Tree {
		if from >= 0 && d.Parent == from && d.Name == name && (!addressed || slices.Equal(d.Unit, unit)) {
			return n, args
		}
	}
	return -1, args
}

// way: a box for each device on the way, each under the next.
func (x *model) way(path string) []*box {
	if len(path) > api.MaxPath {
		panic(api.ErrLong)
	}
	if path == "" || path[0] != '/' {
		panic(api.ErrText)
	}
	if path == "/" {
		panic(api.ErrNode)
	}
	var l []*box
	at := 0
	var under *box
	for text := range strings.SplitSeq(path[1:], "/") {
		n, args := x.step(at, text)
		b := &box{node: n, under: under, args: args}
		l, at, under = append(l, b), n, b
	}
	// All of the text is read, before anything of it leads nowhere.
	for _, b := range l {
		if b.node < 0 {
			panic(api.ErrNode)
		}
		b.cells = anew(x.m.Tree[b.node].Cells)
	}
	return l
}

func (x *model) lay(b *box) {
	at := slices.Index(x.shelves, nil)
	if at < 0 {
		at = len(x.shelves)
		x.shelves = append(x.shelves, nil)
	}
	if at == api.MaxInsts {
		panic(api.ErrMany)
	}
	x.shelves[at] = b
}

func (x *model) open(path string) uint32 {
	var last *box
	for _, b := range x.way(path) {
		x.lay(b)
		last = b
		xt, ok := x.method(b, "open")
		if !ok {
			continue
		}
		x.run(b, xt)
		l := x.m.Stack
		if len(l) == 0 {
			panic(api.ErrUnder)
		}
		if l[len(l)-1] == 0 {
			panic(api.ErrSelf)
		}
		x.m.Stack = l[:len(l)-1]
	}
	return uint32(x.number(last) + 1)
}

func (x *model) boxOf(ih uint32) *box {
	for i, b := range x.shelves {
		if b != nil && uint32(i+1) == ih {
			return b
		}
	}
	panic(api.ErrSelf)
}

func (x *model) call(ih uint32, name string, args []uint32) []uint32 {
	b := x.boxOf(ih)
	xt, ok := x.method(b, name)
	if !ok {
		panic(api.ErrMethod)
	}
	height := len(x.m.Stack)
	x.m.Stack = slices.Concat(x.m.Stack, args)
	if len(x.m.Stack) > api.MaxStack {
		panic(api.ErrOver)
	}
	x.run(b, xt)
	if len(x.m.Stack) < height {
		panic(api.ErrUnder)
	}
	l := x.m.Stack[height:]
	x.m.Stack = x.m.Stack[:height]
	return l
}

// loaded: does anything that lies there stand on the box?
func (x *model) loaded(b *box) bool {
	for _, o := range x.shelves {
		if o != nil && o.under == b {
			return true
		}
	}
	return false
}

func (x *model) shut(ih uint32) {
	b := x.boxOf(ih)
	if x.loaded(b) {
		panic(api.ErrExist)
	}
	x.shutFrom(b)
}

func (x *model) shutFrom(b *box) {
	if b == nil || x.loaded(b) {
		return
	}
	if xt, ok := x.method(b, "close"); ok {
		x.run(b, xt)
	}
	x.shelves[x.number(b)] = nil
	x.shutFrom(b.under)
}

func (x *model) chain(ih uint32) []uint32 {
	var l []uint32
	for b := x.boxOf(ih); b != nil; b = b.under {
		l = append(l, uint32(x.number(b)+1))
	}
	return l
}

// tried: the error with which the model is given up, if it is.
func tried(do func()) (e api.Errno) {
	defer func() {
		if r := recover(); r != nil {
			e = r.(api.Errno)
		}
	}()
	do()
	return api.OK
}

// modelOpen, modelCall, modelShut, modelChain: what the model answers.
func modelOpen(m api.Machine, path string, fuel int) (y api.Machine, ih uint32, left int, e api.Errno) {
	if !dict.Formed(m) || fuel < 0 || fuel > api.MaxFuel {
		return y, 0, 0, api.ErrArg
	}
	x := newModel(m, fuel)
	if e = tried(func() { ih = x.open(path) }); e != api.OK {
		return y, 0, 0, e
	}
	return x.over(), ih, x.fuel, e
}

func modelCall(m api.Machine, ih uint32, name string, args []uint32, fuel int) (y api.Machine, l []uint32, left int, e api.Errno) {
	if !dict.Formed(m) || fuel < 0 || fuel > api.MaxFuel {
		return y, nil, 0, api.ErrArg
	}
	x := newModel(m, fuel)
	if e = tried(func() { l = x.call(ih, name, args) }); e != api.OK {
		return y, nil, 0, e
	}
	return x.over(), l, x.fuel, e
}

func modelShut(m api.Machine, ih uint32, fuel int) (y api.Machine, left int, e api.Errno) {
	if !dict.Formed(m) || fuel < 0 || fuel > api.MaxFuel {
		return y, 0, api.ErrArg
	}
	x := newModel(m, fuel)
	if e = tried(func() { x.shut(ih) }); e != api.OK {
		return y, 0, e
	}
	return x.over(), x.fuel, e
}

func modelChain(m api.Machine, ih uint32) (l []uint32) {
	if dict.Formed(m) {
		tried(func() { l = newModel(m, 0).chain(ih) })
	}
	return l
}
