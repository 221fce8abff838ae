package outer_test

import (
	"slices"

	"tinder/api"
	"tinder/code"
	"tinder/dict"
	"tinder/digit"
	"tinder/inner"
	"tinder/scan"
)

// A statement is what tokens come to that belong together, whatever words there are.
type statement struct {
	what     int
	text     string // a name, a word, or a text's bytes
	by       int
	instance bool
	body     []statement
	e        api.Errno
}

const (
	isText = iota
	isPrint
	isWord
	isTick
	isTo
	isMake
	isExit
	isBuild
	isDefinition
	isRefused // the text can't be gone on with from here
)

// An order parts tokens into statements.
type order struct {
	rest   []api.Token
	builds map[string][]int
}

// name: the token behind, if it may be one.
func (o *order) name(defined bool) (string, bool) {
	if len(o.rest) == 0 {
		return "", false
	}
	t := o.rest[0]
	o.rest = o.rest[1:]
	return t.Text, t.Kind == api.TWord && (!defined || dict.Named(t.Text))
}

func refused(e api.Errno) statement { return statement{what: isRefused, e: e} }

// asking: a statement of a word and a name.
func (o *order) asking(s statement, defined bool) statement {
	name, ok := o.name(defined)
	if !ok {
		return refused(api.ErrText)
	}
	s.text = name
	return s
}

// one: the statement that begins with a token, outside of a definition or inside of one.
func (o *order) one(t api.Token, inside bool) statement {
	if t.Kind == api.TText {
		return statement{what: isText, text: t.Text}
	}
	if t.Kind == api.TPrint {
		return statement{what: isPrint, text: t.Text}
	}
	by := map[string]int{"constant": byConstant, "value": byValue, "variable": byVariable, "defer": byDefer, "buffer:": byBuffer}[t.Text]
	onlyOutside := by != 0 || slices.Contains([]string{":", "instance", "'"}, t.Text)
	onlyInside := o.builds[t.Text] != nil || slices.Contains([]string{";", "exit", "[']"}, t.Text)
	switch {
	case inside && onlyOutside, !inside && onlyInside:
		return refused(api.ErrControl)
	case by != 0:
		return o.asking(statement{what: isMake, by: by}, true)
	case o.builds[t.Text] != nil:
		return statement{what: isBuild, text: t.Text}
	}
	switch t.Text {
	case ":":
		return o.definition()
	case "instance":
		if name, ok := o.name(false); !ok || name != "value" {
			return refused(api.ErrText)
		}
		return o.asking(statement{what: isMake, by: byValue, instance: true}, true)
	case "'", "[']":
		return o.asking(statement{what: isTick}, false)
	case "to":
		return o.asking(statement{what: isTo}, false)
	case "exit":
		return statement{what: isExit}
	}
	return statement{what: isWord, text: t.Text}
}

// definition: a name, and all up to the ; that ends it.
func (o *order) definition() statement {
	s := o.asking(statement{what: isDefinition}, true)
	if s.what == isRefused {
		return s
	}
	for len(o.rest) > 0 {
		t := o.rest[0]
		o.rest = o.rest[1:]
		if t.Kind == api.TWord && t.Text == ";" {
			return s
		}
		s.body = append(s.body, o.one(t, true))
	}
	s.body = append(s.body, refused(api.ErrControl))
	return s
}

// A model does statements; it is given up by a panic with an error.
type model struct {
	m      api.Machine
	fuel   int
	builds map[string][]int
	code   api.Draft // of the definition
}

func must(e api.Errno) {
	if e != api.OK {
		panic(e)
	}
}

func refuse(is bool, e api.Errno) {
	if is {
		panic(e)
	}
}

// try: does it, and answers the error with which it gives up.
func try(do func()) (e api.Errno) {
	defer func() {
		if x := recover(); x != nil {
			e = x.(api.Errno)
		}
	}()
	do()
	return api.OK
}

// eval: a text, on a machine that is formed.
func (x *model) eval(text string) api.Errno {
	l, e := scan.Cut(text)
	if e != api.OK {
		return e
	}
	o := order{rest: l, builds: x.builds}
	var all []statement
	for len(o.rest) > 0 {
		t := o.rest[0]
		o.rest = o.rest[1:]
		all = append(all, o.one(t, false))
	}
	return try(func() {
		for _, s := range all {
			x.do(s)
		}
	})
}

func (x *model) found(name string) int {
	for n := len(x.m.Words) - 1; n >= 0; n-- {
		if x.m.Words[n].Name == name {
			return n
		}
	}
	panic(api.ErrWord)
}

func (x *model) push(l ...uint32) {
	refuse(len(x.m.Stack)+len(l) > 64, api.ErrOver)
	x.m.Stack = slices.Concat(x.m.Stack, l)
}

func (x *model) pop() uint32 {
	refuse(len(x.m.Stack) == 0, api.ErrUnder)
	n := x.m.Stack[len(x.m.Stack)-1]
	x.m.Stack = x.m.Stack[:len(x.m.Stack)-1]
	return n
}

// room: so many new bytes; where they begin.
func (x *model) room(n uint32) int {
	at := len(x.m.Mem)
	for at%4 != 0 {
		at++
	}
	refuse(uint64(at)+uint64(n) > 4096, api.ErrRoom)
	x.m.Mem = append(slices.Clone(x.m.Mem), make([]byte, at+int(n)-len(x.m.Mem))...)
	return at
}

func (x *model) lay(s string) (uint32, uint32) {
	at := x.room(uint32(len(s)))
	copy(x.m.Mem[at:], s)
	return uint32(at), uint32(len(s))
}

func (x *model) run(xt int) {
	m, left, e := inner.Run(x.m, xt, x.fuel)
	must(e)
	x.m, x.fuel = m, left
}

func (x *model) add(w api.Word) {
	refuse(len(x.m.Words) >= 640, api.ErrMany)
	w.Node = x.m.Node
	x.m.Words = append(slices.Clone(x.m.Words), w)
}

// do: a statement outside of a definition.
func (x *model) do(s statement) {
	switch s.what {
	case isRefused:
		panic(s.e)
	case isText:
		at, n := x.lay(s.text)
		x.push(at, n)
	case isPrint:
		at, n := x.lay(s.text)
		x.push(at, n)
		x.run(first("type"))
	case isTick:
		x.push(uint32(x.found(s.text)))
	case isTo:
		m, e := inner.To(x.m, x.found(s.text))
		must(e)
		x.m = m
	case isMake:
		x.make(s)
	case isDefinition:
		x.code = api.Draft{}
		for _, part := range s.body {
			x.compile(part)
		}
		l, e := code.Finish(x.code)
		must(e)
		x.add(api.Word{Name: s.text, Kind: api.WColon, Code: l})
	default:
		if e := try(func() { x.found(s.text) }); e == api.OK {
			x.run(x.found(s.text))
			return
		}
		n, ok := digit.Literal(s.text)
		refuse(!ok, api.ErrWord)
		x.push(n)
	}
}

func (x *model) make(s statement) {
	w := api.Word{Name: s.text}
	switch {
	case s.instance:
		refuse(x.m.Node < 0, api.ErrNode)
		for _, inst := range x.m.Insts {
			refuse(inst.Node == x.m.Node, api.ErrSelf)
		}
		cell := x.pop()
		d := &x.m.Tree[x.m.Node]
		refuse(len(d.Cells) >= 16, api.ErrMany)
		w.Kind, w.N = api.WInst, uint32(len(d.Cells))
		d.Cells = append(slices.Clone(d.Cells), cell)
	case s.by == byConstant:
		w.Kind, w.N = api.WConst, x.pop()
	case s.by == byValue:
		w.Kind, w.N = api.WValue, x.pop()
	case s.by == byVariable:
		w.Kind, w.N = api.WVar, uint32(x.room(4))
	case s.by == byBuffer:
		w.Kind, w.N = api.WVar, uint32(x.room(x.pop()))
	default:
		w.Kind = api.WDefer
	}
	x.add(w)
}

func (x *model) put(l ...api.Op) {
	for _, o := range l {
		d, e := code.Put(x.code, o)
		must(e)
		x.code = d
	}
}

// compile: a statement of a definition.
func (x *model) compile(s statement) {
	switch s.what {
	case isRefused:
		panic(s.e)
	case isText:
		at, n := x.lay(s.text)
		x.put(lit(at), lit(n))
	case isPrint:
		at, n := x.lay(s.text)
		x.put(lit(at), lit(n), call("type"))
	case isTick:
		x.put(lit(uint32(x.found(s.text))))
	case isTo:
		x.put(op(api.OTo, uint32(x.found(s.text))))
	case isExit:
		x.put(op(api.OExit, 0))
	case isBuild:
		for _, act := range x.builds[s.text] {
			d, e := code.Act(x.code, act)
			must(e)
			x.code = d
		}
	default:
		if e := try(func() { x.found(s.text) }); e == api.OK {
			x.put(op(api.OCall, uint32(x.found(s.text))))
			return
		}
		n, ok := digit.Literal(s.text)
		refuse(!ok, api.ErrWord)
		x.put(lit(n))
	}
}
