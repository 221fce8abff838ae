package fcc

import (
	"tinder/api"
	"tinder/token"
)

// offsetSize is how many bytes an offset has; they are the last ones of its token.
const offsetSize = 2

// A branch is a token with an offset: its number in the row, and the place of the offset's first byte.
type branch struct {
	number int
	from   int
}

// A loop that isn't at its end: what began it, and the place behind that.
type loop struct {
	begin branch
	body  int
}

// A choice is a case that isn't at its end: the of that stands open in it, if one does; what leads behind it all.
type choice struct {
	inOf bool
	of   branch
	outs []branch
}

// A row is tokens, one behind the other, with all that stands open among them. The last one of a list is the newest one.
type row struct {
	tokens []api.Tok
	size   int // bytes of the tokens: the place behind all of them
	aheads []branch
	backs  []int // places to come back to
	loops  []loop
	cases  []choice
}

// newest: what is newest of a list, and those below it.
func newest[T any](l []T) (T, []T, api.Errno) {
	n := len(l) - 1
	if n < 0 {
		var nothing T
		return nothing, nil, api.ErrControl
	}
	return l[n], l[:n], api.OK
}

// open: does anything wait for its end?
func (r *row) open() bool {
	return len(r.aheads) > 0 || len(r.backs) > 0 || len(r.loops) > 0 || len(r.cases) > 0
}

func (r *row) lay(t api.Tok) {
	r.tokens = append(r.tokens, t)
	r.size += token.Size(t, wide)
}

// layCodes: tokens with nothing behind their codes.
func (r *row) layCodes(codes ...int) {
	for _, code := range codes {
		r.lay(api.Tok{Code: code})
	}
}

// layBranch: a token whose offset is to be told later.
func (r *row) layBranch(code int) branch {
	number := len(r.tokens)
	r.layCodes(code)
	return branch{number: number, from: r.size - offsetSize}
}

// lead: these branches lead to that place.
func (r *row) lead(to int, branches ...branch) {
	for _, b := range branches {
		r.tokens[b.number].Off = to - b.from
	}
}

// act: the token of one of layer 10's acts.
func (r *row) act(act int) api.Errno {
	switch act {
	case api.AIf:
		r.aheads = append(r.aheads, r.layBranch(zeroCode))
	case api.AAhead:
		return r.ahead()
	case api.AThen:
		return r.then()
	case api.ABegin:
		r.layCodes(backCode)
		r.backs = append(r.backs, r.size)
	case api.AAgain:
		return r.back(branchCode)
	case api.AUntil:
		return r.back(zeroCode)
	case api.ADo:
		r.openLoop(doCode)
	case api.AQDo:
		r.openLoop(questionCode)
	case api.ALoop:
		return r.closeLoop(loopCode)
	case api.APlus:
		return r.closeLoop(plusCode)
	case api.ALeave:
		return r.leave()
	case api.ACase:
		r.layCodes(caseCode)
		r.cases = append(r.cases, choice{})
	case api.AOf:
		return r.openOf()
	case api.AEndof:
		return r.closeOf()
	case api.AEndcase:
		return r.closeCase()
	}
	return api.OK
}

func (r *row) ahead() api.Errno {
	b, below, e := newest(r.aheads)
	if e != api.OK {
		return e
	}
	// The newest one stays so: the next place is its own.
	r.aheads = append(below, r.layBranch(branchCode), b)
	return api.OK
}

func (r *row) then() api.Errno {
	b, below, e := newest(r.aheads)
	if e != api.OK {
		return e
	}
	r.aheads = below
	r.layCodes(thereCode)
	r.lead(r.size, b)
	return api.OK
}

// back: a branch by that code to the newest place to come back to.
func (r *row) back(code int) api.Errno {
	to, below, e := newest(r.backs)
	if e != api.OK {
		return e
	}
	r.backs = below
	r.lead(to, r.layBranch(code))
	return api.OK
}

func (r *row) openLoop(code int) {
	b := r.layBranch(code)
	r.loops = append(r.loops, loop{begin: b, body: r.size})
}

func (r *row) closeLoop(code int) api.Errno {
	l, below, e := newest(r.loops)
	if e != api.OK {
		return e
	}
	r.loops = below
	r.lead(l.body, r.layBranch(code))
	r.lead(r.size, l.begin)
	return api.OK
}

func (r *row) leave() api.Errno {
	_, _, e := newest(r.loops)
	if e == api.OK {
		r.layCodes(leaveCode)
	}
	return e
}

// newestCase: the newest case, if an of stands open in it, or none does, as is asked.
func (r *row) newestCase(inOf bool) (choice, []choice, api.Errno) {
	c, below, e := newest(r.cases)
	if e != api.OK || c.inOf != inOf {
		return choice{}, nil, api.ErrControl
	}
	return c, below, api.OK
}

func (r *row) openOf() api.Errno {
	c, below, e := r.newestCase(false)
	if e != api.OK {
		return e
	}
	r.cases = append(below, choice{inOf: true, of: r.layBranch(ofCode), outs: c.outs})
	return api.OK
}

func (r *row) closeOf() api.Errno {
	c, below, e := r.newestCase(true)
	if e != api.OK {
		return e
	}
	out := r.layBranch(endofCode)
	// What doesn't fit goes on behind the way out of what does.
	r.lead(r.size, c.of)
	r.cases = append(below, choice{outs: append(c.outs, out)})
	return api.OK
}

func (r *row) closeCase() api.Errno {
	c, below, e := r.newestCase(false)
	if e != api.OK {
		return e
	}
	r.cases = below
	r.layCodes(endcaseCode)
	r.lead(r.size, c.outs...)
	return api.OK
}
