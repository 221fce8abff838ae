package inner

import (
	"tinder/api"
	"tinder/tree"
)

// root is the device on which new ones are put while none is at work.
const root = 0

// device: words of devices and their properties.
func (r *runner) device(op int) (bool, api.Errno) {
	switch op {
	case opProperty:
		return true, r.setProperty()
	case opDropProperty:
		return true, r.dropProperty()
	case opGetProperty:
		return true, r.getProperty()
	case opNewDevice:
		return true, r.newDevice()
	case opFinishDevice:
		return true, r.finishDevice()
	}
	return false, api.OK
}

// takeAtWork: cells off the stack, for a device that must be at work.
func (r *runner) takeAtWork(n int) ([]uint32, api.Errno) {
	in, e := r.take(n)
	if e == api.OK && r.Node == none {
		return nil, api.ErrNode
	}
	return in, e
}

func (r *runner) setProperty() api.Errno {
	in, e := r.takeAtWork(4)
	if e != api.OK {
		return e
	}
	name, e := r.text(in[2], in[3])
	if e != api.OK {
		return e
	}
	data, e := r.text(in[0], in[1])
	if e != api.OK {
		return e
	}
	r.Tree, e = tree.Set(r.Tree, r.Node, name, []byte(data))
	return e
}

func (r *runner) dropProperty() api.Errno {
	in, e := r.takeAtWork(2)
	if e != api.OK {
		return e
	}
	name, e := r.text(in[0], in[1])
	if e != api.OK {
		return e
	}
	r.Tree, e = tree.Drop(r.Tree, r.Node, name)
	return e
}

func (r *runner) getProperty() api.Errno {
	in, e := r.takeAtWork(2)
	if e != api.OK {
		return e
	}
	name, e := r.text(in[0], in[1])
	if e != api.OK {
		return e
	}
	data, e := tree.Get(r.Tree, r.Node, name)
	if e == api.ErrNone {
		return r.leave(api.OK, 1<<32-1)
	}
	if e != api.OK {
		return e
	}
	return r.leaveText(string(data), 0)
}

func (r *runner) newDevice() api.Errno {
	in, e := r.take(3)
	if e != api.OK {
		return e
	}
	if in[0] > api.MaxUnit {
		return api.ErrArg
	}
	unit, e := r.take(int(in[0]))
	if e != api.OK {
		return e
	}
	name, e := r.text(in[1], in[2])
	if e != api.OK {
		return e
	}
	t, n, e := tree.Add(r.Tree, max(r.Node, root), name, unit)
	r.Tree, r.Node = t, n
	return e
}

// finishDevice: the root's parent is none, so that none is at work behind the root.
func (r *runner) finishDevice() api.Errno {
	if r.Node == none {
		return api.ErrNode
	}
	r.Node = r.Tree[r.Node].Parent
	return api.OK
}
