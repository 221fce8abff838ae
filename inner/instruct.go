package inner

import (
	"tinder/api"
	"tinder/cell"
)

// instruct: an instruction of the innermost frame, a colon word's.
func (r *runner) instruct(o api.Op) api.Errno {
	switch o.Kind {
	case api.OLit:
		return r.leave(api.OK, o.N)
	case api.OCall:
		r.next = int(o.N)
		return api.OK
	case api.OBranch:
		r.jump(o.N)
		return api.OK
	case api.OZero:
		return r.ifZero(o.N)
	case api.ODo, api.OQDo:
		return r.openLoop(o)
	case api.OLoop:
		// A step of 1 crosses the limit just where it comes to it.
		return r.again(o.N, 1)
	case api.OPlus:
		return r.againBy(o.N)
	case api.OLeave:
		return r.outOfLoop(o.N)
	case api.OOf:
		return r.ofCase(o.N)
	case api.ODrop:
		_, e := r.take(1)
		return e
	case api.OExit:
		return r.closeColon()
	}
	return r.into(o.N)
}

// jump: the colon word goes on there.
func (r *runner) jump(n uint32) {
	r.frames[len(r.frames)-1].at = int(n)
}

func (r *runner) ifZero(n uint32) api.Errno {
	in, e := r.take(1)
	if e != api.OK {
		return e
	}
	if in[0] == 0 {
		r.jump(n)
	}
	return api.OK
}

func (r *runner) openLoop(o api.Op) api.Errno {
	in, e := r.take(2)
	if e != api.OK {
		return e
	}
	if o.Kind == api.OQDo && in[0] == in[1] {
		r.jump(o.N)
		return api.OK
	}
	return r.leaveRet(in...)
}

// again: the loop's index goes up by a step; unless it crosses the limit, the loop's body is done again.
func (r *runner) again(n uint32, step int64) api.Errno {
	loop, e := r.takeRet(2)
	if e != api.OK {
		return e
	}
	limit, index := loop[0], loop[1]
	// The sum has more bits than a cell: it doesn't wrap round on the side of the ring that is far from the limit.
	x := int64(cell.Signed(index - limit))
	if (x < 0) != (x+step < 0) {
		return api.OK
	}
	r.jump(n)
	return r.leaveRet(limit, index+uint32(step))
}

// againBy: likewise by a step that is taken off the stack; that there is a loop is asked first.
func (r *runner) againBy(n uint32) api.Errno {
	if _, e := r.cellRet(2); e != api.OK {
		return e
	}
	in, e := r.take(1)
	if e != api.OK {
		return e
	}
	return r.again(n, int64(cell.Signed(in[0])))
}

func (r *runner) outOfLoop(n uint32) api.Errno {
	if _, e := r.takeRet(2); e != api.OK {
		return e
	}
	r.jump(n)
	return api.OK
}

func (r *runner) ofCase(n uint32) api.Errno {
	in, e := r.take(2)
	if e != api.OK || in[0] == in[1] {
		return e
	}
	r.jump(n)
	return r.leave(api.OK, in[0])
}
