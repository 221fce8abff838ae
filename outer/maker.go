package outer

import (
	"slices"

	"tinder/api"
	"tinder/mem"
)

// The numbers by which words are made.
const (
	byValue    = 0xb8
	byVariable = 0xb9
	byConstant = 0xba
	byDefer    = 0xbc
	byBuffer   = 0xbd
)

// cellBytes is how much memory a variable has.
const cellBytes = 4

// makes: is a word made by the number?
func makes(by int) bool {
	switch by {
	case byValue, byVariable, byConstant, byDefer, byBuffer:
		return true
	}
	return false
}

// A maker works on a machine of its own, which is of no more use once something has been refused.
type maker struct {
	api.Machine
}

// word: what is made, but for its name and its device.
func (k *maker) word(by int, instance bool) (api.Word, api.Errno) {
	if instance && by != byValue {
		return api.Word{}, api.ErrControl
	}
	switch {
	case instance:
		return k.ofInstance()
	case by == byConstant:
		return k.ofCell(api.WConst)
	case by == byValue:
		return k.ofCell(api.WValue)
	case by == byVariable:
		return k.ofBytes(cellBytes)
	case by == byBuffer:
		return k.buffer()
	}
	return api.Word{Kind: api.WDefer}, api.OK
}

// take: a cell off the stack.
func (k *maker) take() (uint32, api.Errno) {
	last := len(k.Stack) - 1
	if last < 0 {
		return 0, api.ErrUnder
	}
	x := k.Stack[last]
	k.Stack = k.Stack[:last]
	return x, api.OK
}

// ofCell: a word of that kind whose number is taken.
func (k *maker) ofCell(kind int) (api.Word, api.Errno) {
	x, e := k.take()
	return api.Word{Kind: kind, N: x}, e
}

// ofBytes: an address of so many bytes of new memory.
func (k *maker) ofBytes(n uint32) (api.Word, api.Errno) {
	m, at, e := mem.Allot(k.Mem, n)
	k.Mem = m
	return api.Word{Kind: api.WVar, N: at}, e
}

func (k *maker) buffer() (api.Word, api.Errno) {
	n, e := k.take()
	if e != api.OK {
		return api.Word{}, e
	}
	return k.ofBytes(n)
}

// ofInstance: a cell more for the instances of the device at work.
func (k *maker) ofInstance() (api.Word, api.Errno) {
	if k.Node == none {
		return api.Word{}, api.ErrNode
	}
	// One that is alive has just as many cells as its device had.
	if slices.ContainsFunc(k.Insts, func(x api.Inst) bool { return x.Node == k.Node }) {
		return api.Word{}, api.ErrSelf
	}
	x, e := k.take()
	if e != api.OK {
		return api.Word{}, e
	}
	d := &k.Tree[k.Node]
	n := len(d.Cells)
	if n == api.MaxCells {
		return api.Word{}, api.ErrMany
	}
	d.Cells = append(d.Cells, x)
	return api.Word{Kind: api.WInst, N: uint32(n)}, api.OK
}
