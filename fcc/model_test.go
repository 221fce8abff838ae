package fcc_test

import (
	"slices"
	"strings"

	"tinder/api"
	"tinder/dict"
	"tinder/digit"
	"tinder/scan"
)

// The model keeps nothing open: whether a word fits is told by counting all words ahead of it, and where an offset leads by going from its token to the one that it belongs to, when all tokens are there.

// A sheet is a text on its way to tokens.
type sheet struct {
	rest  []api.Token
	toks  []api.Tok
	names []string // of the codes from 800 on
	words []string // those of the definition's words that build, from its beginning on
	begun int      // the token with which it begins; 0, if there is none
}

func count(l []string, words string) int {
	n := 0
	for _, s := range l {
		if slices.Contains(strings.Fields(words), s) {
			n++
		}
	}
	return n
}

func aheads(l []string) int { return count(l, "if while") - count(l, "then repeat") }

func backs(l []string) int { return count(l, "begin") - count(l, "again until repeat") }

func loops(l []string) int { return count(l, "do ?do") - count(l, "loop +loop") }

// cases: a c for each case that is open, an o for each of; those that are complete are crossed out.
func cases(l []string) string {
	signs := map[string]string{"case": "c", "of": "o", "endof": "f", "endcase": "e"}
	s := ""
	for _, word := range l {
		s += signs[word]
	}
	for {
		less := strings.ReplaceAll(strings.ReplaceAll(s, "of", ""), "ce", "")
		if less == s {
			return s
		}
		s = less
	}
}

// fits: may the word stand behind those?
func fits(l []string, word string) bool {
	switch word {
	case "then", "else":
		return aheads(l) > 0
	case "again", "until":
		return backs(l) > 0
	case "repeat":
		return backs(l) > 0 && aheads(l) > 0
	case "loop", "+loop", "leave":
		return loops(l) > 0
	case "of", "endcase":
		return strings.HasSuffix(cases(l), "c")
	case "endof":
		return strings.HasSuffix(cases(l), "o")
	case ";":
		return aheads(l) == 0 && backs(l) == 0 && loops(l) == 0 && cases(l) == ""
	}
	return true
}

// codesOf: of a word that builds.
func codesOf(word string) []int {
	return map[string][]int{
		"if": {0x14}, "while": {0x14}, "then": {0xb2}, "else": {0x13, 0xb2}, "begin": {0xb1}, "again": {0x13}, "until": {0x14}, "repeat": {0x13, 0xb2},
		"do": {0x17}, "?do": {0x18}, "loop": {0x15}, "+loop": {0x16}, "leave": {0x1b}, "case": {0xc4}, "of": {0x1c}, "endof": {0xc6}, "endcase": {0xc5},
	}[word]
}

// byModel: what a text comes to.
func byModel(text string) ([]api.Tok, api.Errno) {
	l, e := scan.Cut(text)
	if e != api.OK {
		return nil, e
	}
	s := sheet{rest: l}
	for len(s.rest) > 0 {
		if e := s.next(); e != api.OK {
			return nil, e
		}
	}
	if s.begun > 0 {
		return nil, api.ErrControl
	}
	s.say(0)
	return s.toks, api.OK
}

func (s *sheet) say(codes ...int) {
	for _, code := range codes {
		s.toks = append(s.toks, api.Tok{Code: code})
	}
}

func (s *sheet) take() (t api.Token) {
	if len(s.rest) > 0 {
		t, s.rest = s.rest[0], s.rest[1:]
	}
	return t
}

func (s *sheet) next() api.Errno {
	t := s.take()
	if t.Kind != api.TWord {
		s.toks = append(s.toks, api.Tok{Code: 0x12, Text: t.Text})
		if t.Kind == api.TPrint {
			s.say(0x90)
		}
		return api.OK
	}
	inside := s.begun > 0
	makers := map[string]int{"constant": 0xba, "value": 0xb8, "variable": 0xb9, "defer": 0xbc, "buffer:": 0xbd, ":": 0xb7, "instance": 0xb8}
	switch by := makers[t.Text]; {
	case inside && (by != 0 || t.Text == "'"):
		return api.ErrControl
	case !inside && (codesOf(t.Text) != nil || slices.Contains([]string{";", "exit", "[']"}, t.Text)):
		return api.ErrControl
	case by != 0:
		return s.define(t.Text, by)
	case t.Text == "'" || t.Text == "[']":
		return s.naming(0x11)
	case t.Text == "to":
		return s.naming(0xc3)
	case t.Text == "exit":
		s.say(0x33)
		return api.OK
	case !fits(s.words, t.Text):
		return api.ErrControl
	case t.Text == ";":
		s.end()
		return api.OK
	case codesOf(t.Text) != nil:
		s.words = append(s.words, t.Text)
		s.say(codesOf(t.Text)...)
		return api.OK
	}
	return s.plain(t.Text)
}

// code: that of a name, among those that are known.
func (s *sheet) code(name string) (int, bool) {
	known := len(s.names)
	if s.begun > 0 {
		known--
	}
	for n := known - 1; n >= 0; n-- {
		if s.names[n] == name {
			return 0x800 + n, true
		}
	}
	code, ok := chapterCodes[name]
	return code, ok
}

func (s *sheet) plain(word string) api.Errno {
	if code, ok := s.code(word); ok {
		s.say(code)
		return api.OK
	}
	n, ok := digit.Literal(word)
	if !ok {
		return api.ErrWord
	}
	s.toks = append(s.toks, api.Tok{Code: 0x10, N: n})
	return api.OK
}

func (s *sheet) naming(code int) api.Errno {
	t := s.take()
	if t.Kind != api.TWord {
		return api.ErrText
	}
	of, ok := s.code(t.Text)
	if !ok {
		return api.ErrWord
	}
	s.toks = append(s.toks, api.Tok{Code: code, N: uint32(of)})
	return api.OK
}

func (s *sheet) define(word string, by int) api.Errno {
	if word == "instance" {
		if t := s.take(); t.Kind != api.TWord || t.Text != "value" {
			return api.ErrText
		}
		s.say(0xc0)
	}
	t := s.take()
	if t.Kind != api.TWord || !dict.Named(t.Text) {
		return api.ErrText
	}
	s.toks = append(s.toks, api.Tok{Code: 0xb6, Text: t.Text, N: uint32(0x800 + len(s.names))})
	s.names = append(s.names, t.Text)
	s.say(by)
	if by == 0xb7 {
		s.begun, s.words = len(s.toks), nil
	}
	return api.OK
}

// end: a definition is complete, and its offsets can be told.
func (s *sheet) end() {
	l := s.toks[s.begun:]
	at := places(l)
	roles := s.roles()
	for i := range l {
		if to := partner(roles, i); to >= 0 {
			l[i].Off = at[to+1] - at[i] - 1
		}
	}
	s.say(0xc2)
	s.begun = 0
}

// roles: of each of the definition's tokens what it does: a opens a branch ahead, h one below the newest, t gives a place, b is one to come back to, k leads back, d and l begin and end a loop, c, o, f and e are case, of, endof and endcase.
func (s *sheet) roles() string {
	signs := map[string]string{"if": "a", "while": "a", "then": "t", "else": "ht", "begin": "b", "again": "k", "until": "k", "repeat": "kt", "do": "d", "?do": "d", "loop": "l", "+loop": "l", "leave": "-", "case": "c", "of": "o", "endof": "f", "endcase": "e"}
	all := ""
	for _, word := range s.words {
		all += signs[word]
	}
	roles := ""
	for _, x := range s.toks[s.begun:] {
		sign := "-"
		if withOffset(x.Code) || slices.Contains([]int{0x1b, 0xb1, 0xb2, 0xc4, 0xc5}, x.Code) {
			sign, all = all[:1], all[1:]
		}
		roles += sign
	}
	return roles
}

// seek: from a token on, in steps of 1 or -1, the first of the role sought, those left out that belong to others of the role that opens them.
func seek(roles string, from, step int, opens, sought byte) int {
	for i, deep := from, 0; ; i += step {
		switch roles[i] {
		case opens:
			deep++
		case sought:
			if deep == 0 {
				return i
			}
			deep--
		}
	}
}

// partner: the token behind which an offset leads; -1 of a token without one.
func partner(roles string, i int) int {
	switch roles[i] {
	case 'h':
		// The place behind it is that of the branch above it.
		return place(roles, i+2)
	case 'a':
		return place(roles, i+1)
	case 'k':
		return seek(roles, i-1, -1, 'k', 'b')
	case 'd':
		return seek(roles, i+1, 1, 'd', 'l')
	case 'l':
		return seek(roles, i-1, -1, 'l', 'd')
	case 'o':
		return endof(roles, i+1)
	case 'f':
		return seek(roles, i+1, 1, 'c', 'e')
	}
	return -1
}

// place: of a branch ahead that is the newest one there.
func place(roles string, from int) int {
	// One that is laid below the newest one and takes its place at once changes nothing of how many are above.
	roles = strings.ReplaceAll(roles, "ht", "-T")
	for i, deep := from, 0; ; i++ {
		switch roles[i] {
		case 'a':
			deep++
		case 'T':
			if deep == 0 {
				return i
			}
		case 't':
			if deep == 0 {
				return i
			}
			deep--
		}
	}
}

// endof: of an of, cases within it left out.
func endof(roles string, from int) int {
	for i, deep := from, 0; ; i++ {
		switch roles[i] {
		case 'c':
			deep++
		case 'e':
			deep--
		case 'f':
			if deep == 0 {
				return i
			}
		}
	}
}
