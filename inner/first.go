package inner

import (
	"tinder/api"
	"tinder/cell"
	"tinder/dict"
	"tinder/stack"
)

// first: what the first word of an FCode number does. Each of the methods answers whether the number is one of its own, and then the error.
func (r *runner) first(op int) api.Errno {
	for _, try := range []func(op int) (bool, api.Errno){
		r.binary, r.unary, r.wide, r.turn, r.number, r.returns, r.lead,
		r.fetch, r.store, r.stretch, r.console, r.encode, r.decode, r.device,
	} {
		if own, e := try(op); own {
			return e
		}
	}
	return api.ErrNone
}

// binary: layer 1 itself tells whether the number is one of its own; two cells of 1 leave it nothing else to refuse.
func (r *runner) binary(op int) (bool, api.Errno) {
	if _, e := cell.Bin(op, 1, 1); e != api.OK {
		return false, api.OK
	}
	in, e := r.take(2)
	if e != api.OK {
		return true, e
	}
	x, e := cell.Bin(op, in[0], in[1])
	return true, r.leave(e, x)
}

func (r *runner) unary(op int) (bool, api.Errno) {
	if _, e := cell.Un(op, 1); e != api.OK {
		return false, api.OK
	}
	in, e := r.take(1)
	if e != api.OK {
		return true, e
	}
	x, e := cell.Un(op, in[0])
	return true, r.leave(e, x)
}

// wide: numbers of which more than one is left, or more than two are taken.
func (r *runner) wide(op int) (bool, api.Errno) {
	n := wideTakes(op)
	if n == 0 {
		return false, api.OK
	}
	in, e := r.take(n)
	if e != api.OK {
		return true, e
	}
	out, e := wideLeaves(op, in)
	return true, r.leave(e, out...)
}

// wideTakes: how many cells are taken; 0 of any other number.
func wideTakes(op int) int {
	switch op {
	case opSplit:
		return 1
	case opDivide, opDivideCells, opTimes:
		return 2
	case opWideCells, opSymmetric, opFloored:
		return 3
	case opDoublePlus, opDoubleMinus, opJoin:
		return 4
	}
	return 0
}

// wideLeaves: which cells are left of as many as are taken.
func wideLeaves(op int, in []uint32) ([]uint32, api.Errno) {
	switch op {
	case opSplit:
		parts := cell.Split(in[0])
		return parts[:], api.OK
	case opJoin:
		return []uint32{cell.Join([4]uint32{in[0], in[1], in[2], in[3]})}, api.OK
	case opTimes:
		low, high := cell.Times(in[0], in[1])
		return []uint32{low, high}, api.OK
	case opDoublePlus, opDoubleMinus:
		x, e := cell.Double(op, [2]uint32{in[0], in[1]}, [2]uint32{in[2], in[3]})
		return x[:], e
	case opDivide, opDivideCells:
		quotient, rest, e := cell.Divide(op, in[0], in[1])
		return []uint32{rest, quotient}, e
	}
	quotient, rest, e := cell.Wide(op, in[0], in[1], in[2])
	return []uint32{rest, quotient}, e
}

func (r *runner) turn(op int) (bool, api.Errno) {
	cells, e := stack.Do(op, r.Stack)
	if e == api.ErrNone {
		return false, api.OK
	}
	r.Stack = cells
	return true, e
}

// number: words that put one number on the stack.
func (r *runner) number(op int) (bool, api.Errno) {
	switch op {
	case opMinusOne:
		return true, r.leave(api.OK, 1<<32-1)
	case opNought, opOne, opTwo, opThree:
		return true, r.leave(api.OK, uint32(op-opNought))
	case opBlank:
		return true, r.leave(api.OK, ' ')
	case opHere:
		return true, r.leave(api.OK, uint32(len(r.Mem)))
	case opMySelf:
		return true, r.leave(api.OK, handle(r.Self))
	case opMyParent:
		if r.Self == none {
			return true, api.ErrSelf
		}
		return true, r.leave(api.OK, handle(r.Insts[r.Self].Parent))
	}
	return false, api.OK
}

// handle: an instance's, 0 of none.
func handle(inst int) uint32 {
	return uint32(inst + 1)
}

// returns: words of the return stack.
func (r *runner) returns(op int) (bool, api.Errno) {
	switch op {
	case opToRet:
		in, e := r.take(1)
		if e != api.OK {
			return true, e
		}
		return true, r.leaveRet(in...)
	case opFromRet:
		cells, e := r.takeRet(1)
		return true, r.leave(e, cells...)
	case opFetchRet, opIndex:
		x, e := r.cellRet(1)
		return true, r.leave(e, x)
	case opOuter:
		x, e := r.cellRet(3)
		return true, r.leave(e, x)
	case opUnloop:
		_, e := r.takeRet(2)
		return true, e
	}
	return false, api.OK
}

// cellRet: the n-th cell of the return stack from the top, which stays.
func (r *runner) cellRet(n int) (uint32, api.Errno) {
	at := len(r.ret) - n
	if at < r.base() {
		return 0, api.ErrRet
	}
	return r.ret[at], api.OK
}

// lead: words that lead to another word, or out of those that are open.
func (r *runner) lead(op int) (bool, api.Errno) {
	switch op {
	case opExecute:
		return true, r.execute()
	case opCatch:
		return true, r.openCatch()
	case opCallMethod:
		return true, r.openMethod()
	case opThrow:
		return true, r.throw()
	}
	return false, api.OK
}

func (r *runner) execute() api.Errno {
	xt, e := r.takeWord()
	r.next = xt
	return e
}

func (r *runner) openCatch() api.Errno {
	xt, e := r.takeWord()
	if e != api.OK {
		return e
	}
	r.frames = append(r.frames, frame{kind: inCatch, base: len(r.ret), height: len(r.Stack)})
	r.next = xt
	return api.OK
}

// openMethod: the method's cells of the return stack are those of who calls it, unless it is a colon word, which has its own.
func (r *runner) openMethod() api.Errno {
	in, e := r.take(3)
	if e != api.OK {
		return e
	}
	// What the handle 0 comes to is above all instances' numbers.
	inst := uint64(in[2] - 1)
	if inst >= uint64(len(r.Insts)) || r.Insts[inst].Node == none {
		return api.ErrSelf
	}
	name, e := r.text(in[0], in[1])
	if e != api.OK {
		return e
	}
	xt, ok := dict.Method(r.Machine, r.Insts[inst].Node, name)
	if !ok {
		return api.ErrMethod
	}
	r.frames = append(r.frames, frame{kind: inMethod, base: r.base(), self: r.Self})
	r.Self = int(inst)
	r.next = xt
	return api.OK
}

func (r *runner) throw() api.Errno {
	in, e := r.take(1)
	if e != api.OK || in[0] == 0 {
		return e
	}
	r.thrown = in[0]
	return api.ErrThrow
}
