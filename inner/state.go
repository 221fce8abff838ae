package inner

import (
	"tinder/api"
	"tinder/mem"
	"tinder/stack"
)

// A state is all that an instruction or a first word may change and, where it errs, must leave as it was. Its lists are changed for new ones, not written to (but by into, when nothing is left to be refused), so that who keeps the struct keeps the state.
type state struct {
	api.Machine
	ret []uint32 // the return stack, the top last
}

// take: cells off the stack, the top last.
func (s *state) take(n int) ([]uint32, api.Errno) {
	rest, cells, e := stack.Pop(s.Stack, n)
	s.Stack = rest
	return cells, e
}

// leave: cells onto the stack, the last one the top, unless there is an error already.
func (s *state) leave(e api.Errno, cells ...uint32) api.Errno {
	if e != api.OK {
		return e
	}
	s.Stack, e = stack.Push(s.Stack, cells...)
	return e
}

// isWord: is it a word's number?
func (s *state) isWord(x uint32) bool {
	return uint64(x) < uint64(len(s.Words))
}

// takeWord: a word's number off the stack.
func (s *state) takeWord() (int, api.Errno) {
	in, e := s.take(1)
	if e != api.OK {
		return none, e
	}
	if !s.isWord(in[0]) {
		return none, api.ErrWord
	}
	return int(in[0]), api.OK
}

// serves: is the instance at work one of the word's device?
func (s *state) serves(w api.Word) bool {
	return s.Self != none && s.Insts[s.Self].Node == w.Node
}

// into: a cell off the stack into the word n.
func (s *state) into(n uint32) api.Errno {
	w := s.Words[n]
	if w.Kind != api.WValue && w.Kind != api.WDefer && w.Kind != api.WInst {
		return api.ErrWord
	}
	in, e := s.take(1)
	if e != api.OK {
		return e
	}
	switch {
	case w.Kind == api.WDefer && !s.isWord(in[0]):
		return api.ErrWord
	case w.Kind == api.WInst && !s.serves(w):
		return api.ErrSelf
	case w.Kind == api.WInst:
		s.Insts[s.Self].Cells[w.N] = in[0]
	default:
		s.Words[n].N = in[0]
	}
	return api.OK
}

// text: bytes of the memory.
func (s *state) text(addr, n uint32) (string, api.Errno) {
	return mem.Text(s.Mem, addr, n)
}

// lay: new memory with these bytes; its address.
func (s *state) lay(text string) (uint32, api.Errno) {
	m, at, e := mem.Allot(s.Mem, uint32(len(text)))
	if e != api.OK {
		return 0, e
	}
	s.Mem, e = mem.Put(m, at, text)
	return at, e
}

// show: a text on the console.
func (s *state) show(text string) api.Errno {
	if len(s.Out)+len(text) > api.MaxOut {
		return api.ErrOut
	}
	s.Out += text
	return api.OK
}
