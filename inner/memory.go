package inner

import (
	"tinder/api"
	"tinder/digit"
	"tinder/mem"
	"tinder/prop"
)

// sizeOf: how many bytes a number has, told by which of three numbers of words op is; 0, if it is none.
func sizeOf(op, four, two, one int) uint32 {
	switch op {
	case four:
		return 4
	case two:
		return 2
	case one:
		return 1
	}
	return 0
}

// fetch: numbers out of the memory.
func (r *runner) fetch(op int) (bool, api.Errno) {
	size := sizeOf(op, opFetch, opFetchPair, opFetchByte)
	if size == 0 {
		return false, api.OK
	}
	in, e := r.take(1)
	if e != api.OK {
		return true, e
	}
	x, e := mem.Fetch(r.Mem, in[0], size)
	return true, r.leave(e, x)
}

// store: numbers into the memory.
func (r *runner) store(op int) (bool, api.Errno) {
	size := sizeOf(op, opStore, opStorePair, opStoreByte)
	if op == opPlusStore {
		size = 4
	}
	if size == 0 {
		return false, api.OK
	}
	in, e := r.take(2)
	if e != api.OK {
		return true, e
	}
	n, addr := in[0], in[1]
	if op == opPlusStore {
		old, e := mem.Fetch(r.Mem, addr, size)
		if e != api.OK {
			return true, e
		}
		n += old
	}
	r.Mem, e = mem.Store(r.Mem, addr, size, n)
	return true, e
}

// stretch: words of stretches of the memory.
func (r *runner) stretch(op int) (bool, api.Errno) {
	switch op {
	case opMove, opFill, opCompare:
		return true, r.threeFold(op)
	case opAllot:
		return true, r.allot()
	}
	return false, api.OK
}

// threeFold: those that take three cells.
func (r *runner) threeFold(op int) api.Errno {
	in, e := r.take(3)
	if e != api.OK {
		return e
	}
	switch op {
	case opMove:
		r.Mem, e = mem.Move(r.Mem, in[0], in[1], in[2])
		return e
	case opFill:
		r.Mem, e = mem.Fill(r.Mem, in[0], in[1], in[2])
		return e
	}
	x, e := mem.Compare(r.Mem, in[0], in[1], in[2])
	return r.leave(e, x)
}

func (r *runner) allot() api.Errno {
	in, e := r.take(1)
	if e != api.OK {
		return e
	}
	m, at, e := mem.Allot(r.Mem, in[0])
	r.Mem = m
	return r.leave(e, at)
}

// console: words that show something, or say how numbers are shown.
func (r *runner) console(op int) (bool, api.Errno) {
	switch op {
	case opEmit, opShow, opShowSign, opSetBase:
		in, e := r.take(1)
		if e != api.OK {
			return true, e
		}
		return true, r.consoleCell(op, in[0])
	case opType:
		text, e := r.takeText()
		if e != api.OK {
			return true, e
		}
		return true, r.show(text)
	case opNewLine:
		return true, r.show("\n")
	}
	return false, api.OK
}

// consoleCell: those of one cell.
func (r *runner) consoleCell(op int, n uint32) api.Errno {
	switch op {
	case opEmit:
		return r.show(string([]byte{byte(n)}))
	case opShow:
		text, e := digit.Show(n, r.Base)
		if e != api.OK {
			return e
		}
		return r.show(text + " ")
	case opShowSign:
		text, e := digit.Signed(n, r.Base)
		if e != api.OK {
			return e
		}
		return r.show(text + " ")
	}
	// Whether the base is fit layer 2 tells, by the error that is asked for here.
	if _, e := digit.Show(0, n); e != api.OK {
		return e
	}
	r.Base = n
	return api.OK
}

// takeText: the text that two cells of the stack tell.
func (r *runner) takeText() (string, api.Errno) {
	in, e := r.take(2)
	if e != api.OK {
		return "", e
	}
	return r.text(in[0], in[1])
}

// leaveText: new memory with these bytes, and on the stack where it lies, how long it is, and other cells.
func (r *runner) leaveText(text string, cells ...uint32) api.Errno {
	at, e := r.lay(text)
	return r.leave(e, append([]uint32{at, uint32(len(text))}, cells...)...)
}

// encode: words that make the bytes of properties.
func (r *runner) encode(op int) (bool, api.Errno) {
	switch op {
	case opEncodeInt:
		in, e := r.take(1)
		if e != api.OK {
			return true, e
		}
		return true, r.leaveText(string(prop.EncodeInt(in[0])))
	case opEncodeText:
		text, e := r.takeText()
		if e != api.OK {
			return true, e
		}
		b, e := prop.EncodeText(text)
		if e != api.OK {
			return true, e
		}
		return true, r.leaveText(string(b))
	case opEncodePlus:
		return true, r.encodePlus()
	}
	return false, api.OK
}

// encodePlus: two stretches become one, which needs no new memory where the second lies just behind the first.
func (r *runner) encodePlus() api.Errno {
	in, e := r.take(4)
	if e != api.OK {
		return e
	}
	one, e := r.text(in[0], in[1])
	if e != api.OK {
		return e
	}
	two, e := r.text(in[2], in[3])
	if e != api.OK {
		return e
	}
	if in[0]+in[1] == in[2] {
		return r.leave(api.OK, in[0], in[1]+in[3])
	}
	return r.leaveText(one + two)
}

// decode: words that take the bytes of properties apart.
func (r *runner) decode(op int) (bool, api.Errno) {
	if op != opDecodeInt && op != opDecodeText {
		return false, api.OK
	}
	in, e := r.take(2)
	if e != api.OK {
		return true, e
	}
	text, e := r.text(in[0], in[1])
	if e != api.OK {
		return true, e
	}
	// What is behind ends where the whole ends.
	end := in[0] + in[1]
	if op == opDecodeInt {
		x, rest, e := prop.DecodeInt([]byte(text))
		n := uint32(len(rest))
		return true, r.leave(e, end-n, n, x)
	}
	first, rest, e := prop.DecodeText([]byte(text))
	n := uint32(len(rest))
	return true, r.leave(e, end-n, n, in[0], uint32(len(first)))
}
