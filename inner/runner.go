package inner

import (
	"slices"

	"tinder/api"
)

// What a frame is of.
const (
	inColon  = iota // a colon word
	inCatch         // a word that is caught
	inMethod        // a word that is run for an instance
)

// A frame is what is open: something that is gone on with, or ended, when what it has run is over.
type frame struct {
	kind   int
	base   int // where its cells of the return stack begin
	word   int // of a colon word: its number
	at     int // of a colon word: the number of its next instruction
	height int // of one that is caught: how high the stack was
	self   int // of one for an instance: which one was at work
}

// A runner runs one word, with all that it leads to.
type runner struct {
	state
	before state   // the state that an error comes back to
	frames []frame // what is open, the innermost last
	open   int     // how many of the frames are of colon words
	next   int     // the word that is to be run next, or none
	fuel   int
	thrown uint32 // the number of the newest throw
}

// run: from label to label, so that words which run one another are no calls within one another.
func (r *runner) run() api.Errno {
	var e api.Errno
word:
	r.before = r.state
	if e = r.begin(); e != api.OK {
		goto fail
	}
	if r.next != none {
		goto word
	}
open:
	if len(r.frames) == 0 {
		return r.level()
	}
	r.before = r.state
	if e = r.proceed(); e != api.OK {
		goto fail
	}
	if r.next != none {
		goto word
	}
	goto open
fail:
	r.state = r.before
	if r.caught(e) {
		goto open
	}
	return e
}

// step: one is taken.
func (r *runner) step() api.Errno {
	if r.fuel == 0 {
		return api.ErrFuel
	}
	r.fuel--
	return api.OK
}

// begin: the next word, as far as it goes by itself: it may open a frame, or lead to another word.
func (r *runner) begin() api.Errno {
	xt := r.next
	r.next = none
	if e := r.step(); e != api.OK {
		return e
	}
	w := r.Words[xt]
	switch w.Kind {
	case api.WConst, api.WValue, api.WVar:
		return r.leave(api.OK, w.N)
	case api.WInst:
		if !r.serves(w) {
			return api.ErrSelf
		}
		return r.leave(api.OK, r.Insts[r.Self].Cells[w.N])
	case api.WDefer:
		r.next = int(w.N)
		return api.OK
	case api.WColon:
		return r.openColon(xt)
	}
	return r.first(int(w.N))
}

func (r *runner) openColon(xt int) api.Errno {
	if r.open == api.MaxDepth {
		return api.ErrRet
	}
	r.open++
	r.frames = append(r.frames, frame{kind: inColon, base: len(r.ret), word: xt})
	return api.OK
}

// proceed: the innermost frame is gone on with.
func (r *runner) proceed() api.Errno {
	f := &r.frames[len(r.frames)-1]
	switch f.kind {
	case inCatch:
		return r.closeCatch()
	case inMethod:
		r.close()
		return api.OK
	}
	l := r.Words[f.word].Code
	if f.at == len(l) {
		return r.closeColon()
	}
	if e := r.step(); e != api.OK {
		return e
	}
	f.at++
	return r.instruct(l[f.at-1])
}

// close: the innermost frame is open no more.
func (r *runner) close() frame {
	last := len(r.frames) - 1
	f := r.frames[last]
	r.frames = r.frames[:last]
	switch f.kind {
	case inColon:
		r.open--
	case inMethod:
		r.Self = f.self
	}
	return f
}

func (r *runner) closeColon() api.Errno {
	if e := r.level(); e != api.OK {
		return e
	}
	r.close()
	return api.OK
}

// closeCatch: while the frame is open it catches its own cells that are left over; what the stack has no room for is an error of the word catch, which goes further out.
func (r *runner) closeCatch() api.Errno {
	if e := r.level(); e != api.OK {
		return e
	}
	r.close()
	return r.leave(api.OK, 0)
}

// caught: frames are closed up to one that catches the error; is there one?
func (r *runner) caught(e api.Errno) bool {
	if e == api.ErrFuel {
		return false
	}
	for len(r.frames) > 0 {
		if f := r.close(); f.kind == inCatch {
			r.resume(f, e)
			return true
		}
	}
	return false
}

// resume: both stacks are as high as they were, with the error's number on top.
func (r *runner) resume(f frame, e api.Errno) {
	c := uint32(e)
	if e == api.ErrThrow {
		c = r.thrown
	}
	cells := make([]uint32, f.height)
	copy(cells, r.Stack)
	r.Stack = append(cells, c)
	r.ret = r.ret[:f.base]
}

// base: where the cells of the return stack begin that may be used.
func (r *runner) base() int {
	if len(r.frames) == 0 {
		return 0
	}
	return r.frames[len(r.frames)-1].base
}

// level: is the return stack as high as where its own cells begin?
func (r *runner) level() api.Errno {
	if len(r.ret) != r.base() {
		return api.ErrRet
	}
	return api.OK
}

// takeRet: cells off the return stack, the top last.
func (r *runner) takeRet(n int) ([]uint32, api.Errno) {
	rest := len(r.ret) - n
	if rest < r.base() {
		return nil, api.ErrRet
	}
	cells := r.ret[rest:]
	r.ret = r.ret[:rest]
	return cells, api.OK
}

// leaveRet: cells onto the return stack, the last one the top.
func (r *runner) leaveRet(cells ...uint32) api.Errno {
	if len(r.ret)+len(cells) > api.MaxRet {
		return api.ErrRet
	}
	// Concat makes new memory, so that what was kept of the return stack stays.
	r.ret = slices.Concat(r.ret, cells)
	return api.OK
}
