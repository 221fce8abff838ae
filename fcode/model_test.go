package fcode_test

import (
	"fmt"
	"regexp"
	"slices"
	"strings"

	"tinder/api"
	"tinder/code"
	"tinder/dict"
	"tinder/inner"
	"tinder/outer"
)

// The model parts a row of tokens into statements ahead of doing any of them: each token has a sign, and patterns say which signs belong together.

// The signs.
const (
	sEnd      = 'e' // 0, ff
	sPlain    = 'p' // what may stand in both states, words of all codes among it
	sName     = 'n' // a name that is one
	sBad      = 'N' // a name that is none
	sColon    = 'c' // b7
	sMaker    = 'm' // what else makes a word
	sInstance = 'i' // c0
	sFinish   = 'f' // c2
	sInside   = 'd' // what else stands in definitions alone
)

// named: at most 31 bytes from 33 to 126, without great letters.
var named = regexp.MustCompile(`^[!-@\[-~]{0,31}$`)

// sign: of a token.
func sign(x api.Tok) byte {
	switch s := fmt.Sprintf(" %x ", x.Code); {
	case strings.Contains(" 0 ff ", s):
		return sEnd
	case strings.Contains(" b5 b6 ca ", s) && named.MatchString(x.Text):
		return sName
	case strings.Contains(" b5 b6 ca ", s):
		return sBad
	case s == " b7 ":
		return sColon
	case strings.Contains(" b8 b9 ba bc bd ", s):
		return sMaker
	case s == " c0 ":
		return sInstance
	case s == " c2 ":
		return sFinish
	case strings.Contains(" 13 14 15 16 17 18 1b 1c 33 b1 b2 c4 c5 c6 ", s):
		return sInside
	}
	return sPlain
}

// A rule is what a statement outside of definitions looks like: its signs, and its error, if it is refused as it stands.
type rule struct {
	signs *regexp.Regexp
	e     api.Errno
	do    func(x *model, l []api.Tok)
}

// rules: the first that fits counts.
func rules() []rule {
	is := regexp.MustCompile
	return []rule{
		{is(`^p`), api.OK, func(x *model, l []api.Tok) { x.plain(l[0]) }},
		{is(`^nm`), api.OK, func(x *model, l []api.Tok) { x.make(l[0], l[1], false) }},
		{is(`^inm`), api.OK, func(x *model, l []api.Tok) { x.make(l[1], l[2], true) }},
		{is(`^inc`), api.ErrControl, nil},
		{is(`^nc[pd]*f`), api.OK, func(x *model, l []api.Tok) { x.define(l[0], l[2:len(l)-1]) }},
		{is(`^nc[pd]*[mc]`), api.ErrToken, func(x *model, l []api.Tok) { x.body(l[2 : len(l)-1]) }},
		{is(`^nc[pd]*[nNie]`), api.ErrControl, func(x *model, l []api.Tok) { x.body(l[2 : len(l)-1]) }},
		{is(`^[fd]`), api.ErrControl, nil},
		{is(`^[nNimc]`), api.ErrToken, nil},
	}
}

var allRules = rules()

// A model does statements; it is given up by a panic with an error.
type model struct {
	m     api.Machine
	fuel  int
	draft *api.Draft // of the definition, if there is one
}

func must(e api.Errno) {
	if e != api.OK {
		panic(e)
	}
}

// tried: does it, and answers the error with which it gives up.
func tried(do func()) (e api.Errno) {
	defer func() {
		if x := recover(); x != nil {
			e = x.(api.Errno)
		}
	}()
	do()
	return api.OK
}

// eval: tokens that can be read, on a machine that is formed.
func (x *model) eval(l []api.Tok) api.Errno {
	signs := ""
	for _, one := range l {
		signs += string(rune(sign(one)))
	}
	end := strings.IndexByte(signs, sEnd)
	if end < 0 {
		return api.ErrToken
	}
	return tried(func() {
		for at := 0; at < end; {
			at += x.statement(signs[at:end+1], l[at:end+1])
		}
	})
}

// statement: the first one; how many tokens it has.
func (x *model) statement(signs string, l []api.Tok) int {
	for _, r := range allRules {
		fit := r.signs.FindString(signs)
		if fit == "" {
			continue
		}
		if r.do != nil {
			r.do(x, l[:len(fit)])
		}
		must(r.e)
		return len(fit)
	}
	panic("no rule for " + signs)
}

// xt: the word of a code, by the chapter's table and the machine's list.
func (x *model) xt(n int) int {
	if n >= 2048 && n-2048 < len(x.m.Codes) && x.m.Codes[n-2048] >= 0 {
		return x.m.Codes[n-2048]
	}
	at := slices.IndexFunc(dict.Prims(), func(p api.Prim) bool { return p.Code == n })
	if at < 0 {
		panic(api.ErrToken)
	}
	return at
}

// put: numbers, onto the stack or into the draft.
func (x *model) put(l ...uint32) {
	for _, n := range l {
		if x.draft != nil {
			x.lay(op(api.OLit, n))
			continue
		}
		if len(x.m.Stack) >= 64 {
			panic(api.ErrOver)
		}
		x.m.Stack = slices.Concat(x.m.Stack, cells(n))
	}
}

func (x *model) lay(o api.Op) {
	d, e := code.Put(*x.draft, o)
	must(e)
	*x.draft = d
}

// plain: a token that does the same in both states, or is put.
func (x *model) plain(t api.Tok) {
	switch t.Code {
	case 0xcc:
	case 0x10:
		x.put(t.N)
	case 0x11:
		x.put(uint32(x.xt(int(t.N))))
	case 0x12:
		m, at, e := outer.Lay(x.m, t.Text)
		must(e)
		x.m = m
		x.put(at, uint32(len(t.Text)))
	case 0xc3:
		x.to(x.xt(int(t.N)))
	default:
		x.call(x.xt(t.Code))
	}
}

func (x *model) to(xt int) {
	if x.draft != nil {
		x.lay(op(api.OTo, uint32(xt)))
		return
	}
	m, e := inner.To(x.m, xt)
	must(e)
	x.m = m
}

func (x *model) call(xt int) {
	if x.draft != nil {
		x.lay(op(api.OCall, uint32(xt)))
		return
	}
	m, left, e := inner.Run(x.m, xt, x.fuel)
	must(e)
	x.m, x.fuel = m, left
}

func (x *model) make(name, by api.Tok, instance bool) {
	m, e := outer.Make(x.m, by.Code, instance, name.Text)
	must(e)
	x.m = m
	x.bind(name)
}

// bind: the newest word gets the code.
func (x *model) bind(name api.Tok) {
	l := make([]int, max(len(x.m.Codes), int(name.N)-2048+1))
	for i := range l {
		l[i] = -1
	}
	copy(l, x.m.Codes)
	l[name.N-2048] = len(x.m.Words) - 1
	x.m.Codes = l
}

func (x *model) define(name api.Tok, body []api.Tok) {
	x.body(body)
	l, e := code.Finish(*x.draft)
	must(e)
	x.draft = nil
	m, _, e := dict.Define(x.m, api.Word{Name: name.Text, Node: x.m.Node, Kind: api.WColon, Code: l})
	must(e)
	x.m = m
	x.bind(name)
}

// meanings: the acts of codes, ahead and back, as the chapter tells them.
const meanings = `13 2 5, 14 1 6, 15 9 9, 16 10 10, 17 7 7, 18 8 8, 1b 11 11, 1c 13 13, b1 4 4, b2 3 3, c4 12 12, c5 15 15, c6 14 14`

// body: what stands in a definition, into a new draft.
func (x *model) body(l []api.Tok) {
	x.draft = &api.Draft{}
	for _, t := range l {
		switch {
		case sign(t) == sPlain:
			x.plain(t)
		case t.Code == 0x33:
			x.lay(op(api.OExit, 0))
		default:
			x.act(t)
		}
	}
}

func (x *model) act(t api.Tok) {
	for row := range strings.SplitSeq(meanings, ", ") {
		var is, ahead, back int
		if fmt.Sscanf(row, "%x %d %d", &is, &ahead, &back); is != t.Code {
			continue
		}
		if t.Off < 0 {
			ahead = back
		}
		d, e := code.Act(*x.draft, ahead)
		must(e)
		*x.draft = d
	}
}
