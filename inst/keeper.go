package inst

import (
	"slices"

	"tinder/api"
	"tinder/dict"
	"tinder/inner"
	"tinder/path"
	"tinder/stack"
	"tinder/tree"
)

// The methods that a device may have for what is done with its instances.
const (
	openMethod  = "open"
	closeMethod = "close"
)

// A stop is a device on the way of a path, with its step's arguments.
type stop struct {
	node int
	args string
}

// way: the devices that a path leads by, the root not included.
func way(t []api.Node, text string) ([]stop, api.Errno) {
	steps, e := path.Parse(text)
	if e != api.OK {
		return nil, e
	}
	if len(steps) == 0 {
		return nil, api.ErrNode
	}
	var l []stop
	for i, step := range steps {
		n, e := tree.Find(t, steps[:i+1])
		if e != api.OK {
			return nil, e
		}
		l = append(l, stop{node: n, args: step.Args})
	}
	return l, api.OK
}

// A keeper works on a machine of its own, which is of no more use once something has been refused.
type keeper struct {
	api.Machine
	fuel int
	was  int // the instance that was at work ahead of the call
}

func newKeeper(m api.Machine, fuel int) keeper {
	return keeper{Machine: dict.Copy(m), fuel: fuel, was: m.Self}
}

// over: the machine behind the call, which may have closed the instance that was at work.
func (k *keeper) over() api.Machine {
	k.Self = k.was
	if k.was != none && k.Insts[k.was].Node == none {
		k.Self = none
	}
	return k.Machine
}

// openAll: an instance at each stop, standing on the one ahead; the number of the last one.
func (k *keeper) openAll(l []stop) (int, api.Errno) {
	i := none
	for _, s := range l {
		next, e := k.add(s, i)
		if e != api.OK {
			return none, e
		}
		if e = k.open(next); e != api.OK {
			return none, e
		}
		i = next
	}
	return i, api.OK
}

// add: a new instance, standing on that parent.
func (k *keeper) add(s stop, parent int) (int, api.Errno) {
	i := slices.IndexFunc(k.Insts, func(x api.Inst) bool { return x.Node == none })
	if i < 0 {
		if len(k.Insts) == api.MaxInsts {
			return none, api.ErrMany
		}
		i = len(k.Insts)
		k.Insts = append(k.Insts, api.Inst{})
	}
	k.Insts[i] = api.Inst{Node: s.node, Parent: parent, Args: s.args, Cells: slices.Clone(k.Tree[s.node].Cells)}
	return i, api.OK
}

// open: the instance's device is asked by its method, if it has one, whether it may be.
func (k *keeper) open(i int) api.Errno {
	xt, ok := k.method(i, openMethod)
	if !ok {
		return api.OK
	}
	if e := k.run(i, xt); e != api.OK {
		return e
	}
	rest, top, e := stack.Pop(k.Stack, 1)
	if e != api.OK {
		return e
	}
	if top[0] == 0 {
		return api.ErrSelf
	}
	k.Stack = rest
	return api.OK
}

// call: a method with these arguments; the cells that it leaves in their place.
func (k *keeper) call(i int, name string, args []uint32) ([]uint32, api.Errno) {
	xt, ok := k.method(i, name)
	if !ok {
		return nil, api.ErrMethod
	}
	height := len(k.Stack)
	l, e := stack.Push(k.Stack, args...)
	if e != api.OK {
		return nil, e
	}
	k.Stack = l
	if e = k.run(i, xt); e != api.OK {
		return nil, e
	}
	if len(k.Stack) < height {
		return nil, api.ErrUnder
	}
	rest, cells, e := stack.Pop(k.Stack, len(k.Stack)-height)
	k.Stack = rest
	return cells, e
}

// closeAll: from an instance on to its parents, as far as nothing else stands on them.
func (k *keeper) closeAll(i int) api.Errno {
	for i != none && !k.stoodOn(i) {
		if xt, ok := k.method(i, closeMethod); ok {
			if e := k.run(i, xt); e != api.OK {
				return e
			}
		}
		parent := k.Insts[i].Parent
		k.Insts[i] = api.Inst{Node: none, Parent: none}
		i = parent
	}
	return api.OK
}

// stoodOn: is the instance another one's parent?
func (k *keeper) stoodOn(i int) bool {
	return slices.ContainsFunc(k.Insts, func(x api.Inst) bool { return x.Parent == i })
}

// method: the word of an instance's device by that name.
func (k *keeper) method(i int, name string) (int, bool) {
	return dict.Method(k.Machine, k.Insts[i].Node, name)
}

// run: a word, for an instance, with the steps that are left.
func (k *keeper) run(i, xt int) (e api.Errno) {
	k.Self = i
	k.Machine, k.fuel, e = inner.Run(k.Machine, xt, k.fuel)
	return e
}
