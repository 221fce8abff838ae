package code

import "tinder/api"

// A builder builds on a draft of its own, which is of no more use once an act has been refused.
type builder struct {
	api.Draft
}

// newest: what is newest of a list, and those below it.
func newest[T any](l []T) (T, []T, api.Errno) {
	n := len(l) - 1
	if n < 0 {
		var nothing T
		return nothing, nil, api.ErrControl
	}
	return l[n], l[:n], api.OK
}

// do: an act.
func (b *builder) do(act int) api.Errno {
	switch act {
	case api.AIf:
		return b.ifZero()
	case api.AAhead:
		return b.ahead()
	case api.AThen:
		return b.then()
	case api.ABegin:
		b.Dests = append(b.Dests, len(b.Code))
		return api.OK
	case api.AAgain:
		return b.back(api.OBranch)
	case api.AUntil:
		return b.back(api.OZero)
	case api.ADo:
		return b.openLoop(api.ODo)
	case api.AQDo:
		return b.openLoop(api.OQDo)
	case api.ALoop:
		return b.closeLoop(api.OLoop)
	case api.APlus:
		return b.closeLoop(api.OPlus)
	case api.ALeave:
		return b.leave()
	case api.ACase:
		b.Cases = append(b.Cases, api.Open{At: none})
		return api.OK
	case api.AOf:
		return b.openOf()
	case api.AEndof:
		return b.closeOf()
	case api.AEndcase:
		return b.closeCase()
	}
	return api.ErrArg
}

// lay: an instruction behind all others; its number.
func (b *builder) lay(o api.Op) (int, api.Errno) {
	at := len(b.Code)
	if at == api.MaxCode {
		return 0, api.ErrLong
	}
	b.Code = append(b.Code, o)
	return at, api.OK
}

// leadHere: these branches lead behind all that was laid.
func (b *builder) leadHere(branches ...int) {
	for _, at := range branches {
		b.Code[at].N = uint32(len(b.Code))
	}
}

func (b *builder) ifZero() api.Errno {
	at, e := b.lay(api.Op{Kind: api.OZero})
	b.Origs = append(b.Origs, at)
	return e
}

func (b *builder) ahead() api.Errno {
	orig, below, e := newest(b.Origs)
	if e != api.OK {
		return e
	}
	at, e := b.lay(api.Op{Kind: api.OBranch})
	// The newest one stays so: the next then is its own.
	b.Origs = append(below, at, orig)
	return e
}

func (b *builder) then() api.Errno {
	orig, below, e := newest(b.Origs)
	if e != api.OK {
		return e
	}
	b.Origs = below
	b.leadHere(orig)
	return api.OK
}

// back: a branch of that kind to the newest place to come back to.
func (b *builder) back(kind int) api.Errno {
	to, below, e := newest(b.Dests)
	if e != api.OK {
		return e
	}
	b.Dests = below
	_, e = b.lay(api.Op{Kind: kind, N: uint32(to)})
	return e
}

func (b *builder) openLoop(kind int) api.Errno {
	at, e := b.lay(api.Op{Kind: kind})
	b.Loops = append(b.Loops, api.Open{At: at})
	return e
}

func (b *builder) closeLoop(kind int) api.Errno {
	loop, below, e := newest(b.Loops)
	if e != api.OK {
		return e
	}
	b.Loops = below
	// What begins the loop isn't done again.
	if _, e = b.lay(api.Op{Kind: kind, N: uint32(loop.At + 1)}); e != api.OK {
		return e
	}
	b.leadHere(loop.At)
	b.leadHere(loop.Outs...)
	return api.OK
}

func (b *builder) leave() api.Errno {
	loop, below, e := newest(b.Loops)
	if e != api.OK {
		return e
	}
	at, e := b.lay(api.Op{Kind: api.OLeave})
	loop.Outs = append(loop.Outs, at)
	b.Loops = append(below, loop)
	return e
}

// newestCase: the newest case, if an of stands open in it, or none does, as is asked.
func (b *builder) newestCase(inOf bool) (api.Open, []api.Open, api.Errno) {
	c, below, e := newest(b.Cases)
	if e != api.OK || (c.At != none) != inOf {
		return api.Open{}, nil, api.ErrControl
	}
	return c, below, api.OK
}

func (b *builder) openOf() api.Errno {
	c, below, e := b.newestCase(false)
	if e != api.OK {
		return e
	}
	c.At, e = b.lay(api.Op{Kind: api.OOf})
	b.Cases = append(below, c)
	return e
}

func (b *builder) closeOf() api.Errno {
	c, below, e := b.newestCase(true)
	if e != api.OK {
		return e
	}
	at, e := b.lay(api.Op{Kind: api.OBranch})
	if e != api.OK {
		return e
	}
	// A case that doesn't fit goes on behind the way out of the one that does.
	b.leadHere(c.At)
	b.Cases = append(below, api.Open{At: none, Outs: append(c.Outs, at)})
	return api.OK
}

func (b *builder) closeCase() api.Errno {
	c, below, e := b.newestCase(false)
	if e != api.OK {
		return e
	}
	if _, e = b.lay(api.Op{Kind: api.ODrop}); e != api.OK {
		return e
	}
	b.leadHere(c.Outs...)
	b.Cases = below
	return api.OK
}
