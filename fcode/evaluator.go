package fcode

import (
	"tinder/api"
	"tinder/code"
	"tinder/dict"
	"tinder/inner"
	"tinder/outer"
)

// An evaluator goes through tokens on a machine of its own, which is of no more use once something has been refused.
type evaluator struct {
	api.Machine
	fuel     int
	left     []api.Tok // what is still to be gone through; the last one ends the program
	compiles bool
	name     api.Tok   // of the definition, while it compiles
	draft    api.Draft // its code
}

// evaluate: all tokens, up to the end.
func (v *evaluator) evaluate() api.Errno {
	for t := v.taken(); !ends(t); t = v.taken() {
		if e := v.token(t); e != api.OK {
			return e
		}
	}
	if v.compiles {
		return api.ErrControl
	}
	return api.OK
}

// taken: the next token. There is one behind each but the end, and whoever comes upon the end takes no more.
func (v *evaluator) taken() api.Tok {
	t := v.left[0]
	v.left = v.left[1:]
	return t
}

func (v *evaluator) token(t api.Tok) api.Errno {
	switch t.Code {
	case numberCode:
		return v.number(t.N)
	case wordCode:
		return v.tick(t)
	case textCode:
		return v.text(t.Text)
	case toCode:
		return v.to(t)
	case widenCode:
		return api.OK
	}
	if v.compiles {
		return v.compile(t)
	}
	return v.interpret(t)
}

// interpret: what a definition has no use for, or does otherwise.
func (v *evaluator) interpret(t api.Tok) api.Errno {
	if _, ok := actOf(t); ok || t.Code == finishCode || t.Code == exitCode {
		return api.ErrControl
	}
	if names(t.Code) {
		return v.define(t, false)
	}
	if t.Code == instanceCode {
		return v.defineOfInstance()
	}
	return v.call(t.Code)
}

// compile: likewise of a definition.
func (v *evaluator) compile(t api.Tok) api.Errno {
	if act, ok := actOf(t); ok {
		return v.act(act)
	}
	if names(t.Code) {
		return api.ErrControl
	}
	switch t.Code {
	case instanceCode:
		return api.ErrControl
	case finishCode:
		return v.finish()
	case exitCode:
		return v.put(api.OExit, 0)
	}
	return v.call(t.Code)
}

// define: a word of that name, by the token behind it.
func (v *evaluator) define(name api.Tok, instance bool) api.Errno {
	by := v.taken().Code
	if name.Text != "" && !dict.Named(name.Text) || !makes(by) {
		return api.ErrToken
	}
	if by == colonCode {
		return v.begin(name, instance)
	}
	m, e := outer.Make(v.Machine, by, instance, name.Text)
	if e != api.OK {
		return e
	}
	return v.bind(m, name)
}

func (v *evaluator) defineOfInstance() api.Errno {
	name := v.taken()
	if !names(name.Code) {
		return api.ErrToken
	}
	return v.define(name, true)
}

// begin: a definition.
func (v *evaluator) begin(name api.Tok, instance bool) api.Errno {
	if instance {
		return api.ErrControl
	}
	v.compiles, v.name, v.draft = true, name, api.Draft{}
	return api.OK
}

// finish: the definition.
func (v *evaluator) finish() api.Errno {
	l, e := code.Finish(v.draft)
	if e != api.OK {
		return e
	}
	m, _, e := dict.Define(v.Machine, api.Word{Name: v.name.Text, Node: v.Node, Kind: api.WColon, Code: l})
	if e != api.OK {
		return e
	}
	v.compiles = false
	return v.bind(m, v.name)
}

// bind: the newest word of a machine, which is at work from here on, gets the code of its name.
func (v *evaluator) bind(m api.Machine, name api.Tok) (e api.Errno) {
	v.Machine, e = dict.Bind(m, int(name.N), len(m.Words)-1)
	return e
}

// word: the number of the word with that code. What makes words is none itself: where no name has taken it, it is refused here.
func (v *evaluator) word(n int) (int, api.Errno) {
	xt, ok := dict.Code(v.Machine, n)
	if !ok {
		return 0, api.ErrToken
	}
	return xt, api.OK
}

// tick: the number of the word whose code the token has.
func (v *evaluator) tick(t api.Tok) api.Errno {
	xt, e := v.word(int(t.N))
	if e != api.OK {
		return e
	}
	return v.number(uint32(xt))
}

// to: a cell goes into the word whose code the token has, or an instruction that does so is put.
func (v *evaluator) to(t api.Tok) api.Errno {
	xt, e := v.word(int(t.N))
	if e != api.OK {
		return e
	}
	if v.compiles {
		return v.put(api.OTo, uint32(xt))
	}
	v.Machine, e = inner.To(v.Machine, xt)
	return e
}

// call: the word with that code is run, or an instruction that runs it is put.
func (v *evaluator) call(n int) api.Errno {
	xt, e := v.word(n)
	if e != api.OK {
		return e
	}
	if v.compiles {
		return v.put(api.OCall, uint32(xt))
	}
	v.Machine, v.fuel, e = inner.Run(v.Machine, xt, v.fuel)
	return e
}

// text: laid into new memory, its address and its length.
func (v *evaluator) text(s string) api.Errno {
	m, at, e := outer.Lay(v.Machine, s)
	if e != api.OK {
		return e
	}
	v.Machine = m
	if e = v.number(at); e != api.OK {
		return e
	}
	return v.number(uint32(len(s)))
}

// number: onto the stack, or an instruction that puts it there.
func (v *evaluator) number(n uint32) api.Errno {
	if v.compiles {
		return v.put(api.OLit, n)
	}
	if len(v.Stack) == api.MaxStack {
		return api.ErrOver
	}
	v.Stack = append(v.Stack, n)
	return api.OK
}

// put: an instruction into the draft.
func (v *evaluator) put(kind int, n uint32) (e api.Errno) {
	v.draft, e = code.Put(v.draft, api.Op{Kind: kind, N: n})
	return e
}

// act: an act on the draft.
func (v *evaluator) act(act int) (e api.Errno) {
	v.draft, e = code.Act(v.draft, act)
	return e
}
