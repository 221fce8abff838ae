package probe_test

import (
	"slices"

	"tinder/api"
	"tinder/dict"
	"tinder/fcode"
)

// modelTry: a slot, by a machine in which its device was there from the beginning.
func modelTry(m api.Machine, i int, b []byte, fuel int) (api.Machine, api.Errno) {
	if i != i&7 || fuel != max(0, min(fuel, api.MaxFuel)) || !dict.Formed(m) {
		return api.Machine{}, api.ErrArg
	}
	own := api.Node{Name: "slot", Unit: cells(uint32(i))}
	x := twin(m)
	if slices.ContainsFunc(x.Tree, func(d api.Node) bool {
		return d.Name == own.Name && d.Parent == own.Parent && slices.Equal(d.Unit, own.Unit)
	}) {
		return api.Machine{}, api.ErrExist
	}
	x.Tree = append(x.Tree, own)
	if !dict.Formed(x) {
		return api.Machine{}, api.ErrMany
	}
	x.Stack, x.Node, x.Self = nil, len(m.Tree), -1
	y, _, e := fcode.Eval(x, b, fuel)
	if e != api.OK {
		return api.Machine{}, e
	}
	return api.Machine{
		Stack: m.Stack, Node: m.Node, Self: m.Self,
		Mem: y.Mem, Words: y.Words, Codes: y.Codes, Base: y.Base, Tree: y.Tree, Insts: y.Insts, Out: y.Out,
	}, api.OK
}

// modelAll: the slots, the last one on what comes of those ahead of it.
func modelAll(m api.Machine, l [][]byte, fuel int) (api.Machine, []api.Errno) {
	last := len(l) - 1
	if last < 0 {
		return m, nil
	}
	ahead, all := modelAll(m, l[:last], fuel)
	if string(l[last]) == "" {
		return ahead, append(all, api.ErrNone)
	}
	y, e := modelTry(ahead, last, l[last], fuel)
	if e != api.OK {
		y = ahead
	}
	return y, append(all, e)
}
