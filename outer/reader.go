package outer

import (
	"tinder/api"
	"tinder/code"
	"tinder/dict"
	"tinder/digit"
	"tinder/inner"
)

// showCode is the FCode number of the word type, which shows printed texts whatever other words are called so.
const showCode = 0x90

// A reader goes through the tokens of a text on a machine of its own, which is of no more use once something has been refused.
type reader struct {
	api.Machine
	fuel     int
	tokens   []api.Token // those that are still to be read
	compiles bool
	name     string    // of the definition, while it compiles
	draft    api.Draft // its code
}

// read: all tokens.
func (r *reader) read() api.Errno {
	for len(r.tokens) > 0 {
		if e := r.token(r.taken()); e != api.OK {
			return e
		}
	}
	if r.compiles {
		return api.ErrControl
	}
	return api.OK
}

// taken: the next token, of which there must be one.
func (r *reader) taken() api.Token {
	t := r.tokens[0]
	r.tokens = r.tokens[1:]
	return t
}

// token: in the state that there is.
func (r *reader) token(t api.Token) api.Errno {
	switch {
	case t.Kind != api.TWord:
		return r.text(t)
	case r.compiles:
		return r.compile(t.Text)
	}
	return r.interpret(t.Text)
}

// text: a text, and what shows it.
func (r *reader) text(t api.Token) api.Errno {
	m, at, e := Lay(r.Machine, t.Text)
	if e != api.OK {
		return e
	}
	r.Machine = m
	for _, n := range []uint32{at, uint32(len(t.Text))} {
		if e = r.number(n); e != api.OK {
			return e
		}
	}
	if t.Kind != api.TPrint {
		return api.OK
	}
	show, _ := dict.Code(r.Machine, showCode)
	return r.call(show)
}

func (r *reader) interpret(word string) api.Errno {
	if by, ok := madeBy(word); ok {
		return r.makeWord(by, false)
	}
	switch word {
	case ":":
		return r.begin()
	case "instance":
		return r.makeOfInstance()
	case "'":
		return r.tick()
	case "to":
		return r.to()
	case ";", "exit", "[']":
		return api.ErrControl
	}
	if len(Acts(word)) > 0 {
		return api.ErrControl
	}
	return r.other(word)
}

func (r *reader) compile(word string) api.Errno {
	if _, ok := madeBy(word); ok {
		return api.ErrControl
	}
	switch word {
	case ";":
		return r.end()
	case ":", "instance", "'":
		return api.ErrControl
	case "exit":
		return r.put(api.OExit, 0)
	case "[']":
		return r.tick()
	case "to":
		return r.to()
	}
	if acts := Acts(word); len(acts) > 0 {
		return r.act(acts)
	}
	return r.other(word)
}

// madeBy: the number by which a word makes words, and whether it does.
func madeBy(word string) (int, bool) {
	switch word {
	case "constant":
		return byConstant, true
	case "value":
		return byValue, true
	case "variable":
		return byVariable, true
	case "defer":
		return byDefer, true
	case "buffer:":
		return byBuffer, true
	}
	return 0, false
}

// nameSuch: the name that the next token is, if it is such a one.
func (r *reader) nameSuch(such func(name string) bool) (string, api.Errno) {
	if len(r.tokens) == 0 {
		return "", api.ErrText
	}
	t := r.taken()
	if t.Kind != api.TWord || !such(t.Text) {
		return "", api.ErrText
	}
	return t.Text, api.OK
}

// newName: the name behind a word that defines it.
func (r *reader) newName() (string, api.Errno) {
	return r.nameSuch(dict.Named)
}

// named: the number of the word whose name is behind.
func (r *reader) named() (int, api.Errno) {
	name, e := r.nameSuch(func(string) bool { return true })
	if e != api.OK {
		return 0, e
	}
	xt, ok := dict.Find(r.Machine, name)
	if !ok {
		return 0, api.ErrWord
	}
	return xt, api.OK
}

// begin: a definition.
func (r *reader) begin() api.Errno {
	name, e := r.newName()
	r.compiles, r.name, r.draft = true, name, api.Draft{}
	return e
}

// end: of the definition.
func (r *reader) end() api.Errno {
	l, e := code.Finish(r.draft)
	if e != api.OK {
		return e
	}
	m, _, e := dict.Define(r.Machine, api.Word{Name: r.name, Node: r.Node, Kind: api.WColon, Code: l})
	r.Machine, r.compiles = m, false
	return e
}

func (r *reader) makeWord(by int, instance bool) api.Errno {
	name, e := r.newName()
	if e != api.OK {
		return e
	}
	r.Machine, e = Make(r.Machine, by, instance, name)
	return e
}

func (r *reader) makeOfInstance() api.Errno {
	if _, e := r.nameSuch(func(name string) bool { return name == "value" }); e != api.OK {
		return e
	}
	return r.makeWord(byValue, true)
}

// tick: the number of the word whose name is behind.
func (r *reader) tick() api.Errno {
	xt, e := r.named()
	if e != api.OK {
		return e
	}
	return r.number(uint32(xt))
}

// to: a cell goes into the word whose name is behind, or an instruction that does so is put.
func (r *reader) to() api.Errno {
	xt, e := r.named()
	if e != api.OK {
		return e
	}
	if r.compiles {
		return r.put(api.OTo, uint32(xt))
	}
	r.Machine, e = inner.To(r.Machine, xt)
	return e
}

// other: a word that says nothing of how to read on.
func (r *reader) other(word string) api.Errno {
	if xt, ok := dict.Find(r.Machine, word); ok {
		return r.call(xt)
	}
	if n, ok := digit.Literal(word); ok {
		return r.number(n)
	}
	return api.ErrWord
}

// call: the word is run, or an instruction that runs it is put.
func (r *reader) call(xt int) (e api.Errno) {
	if r.compiles {
		return r.put(api.OCall, uint32(xt))
	}
	r.Machine, r.fuel, e = inner.Run(r.Machine, xt, r.fuel)
	return e
}

// number: onto the stack, or an instruction that puts it there.
func (r *reader) number(n uint32) api.Errno {
	if r.compiles {
		return r.put(api.OLit, n)
	}
	if len(r.Stack) == api.MaxStack {
		return api.ErrOver
	}
	r.Stack = append(r.Stack, n)
	return api.OK
}

// put: an instruction into the draft.
func (r *reader) put(kind int, n uint32) (e api.Errno) {
	r.draft, e = code.Put(r.draft, api.Op{Kind: kind, N: n})
	return e
}

// act: acts on the draft, one behind the other.
func (r *reader) act(acts []int) (e api.Errno) {
	for _, a := range acts {
		if r.draft, e = code.Act(r.draft, a); e != api.OK {
			return e
		}
	}
	return api.OK
}
