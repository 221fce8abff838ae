package fcc

import (
	"tinder/api"
	"tinder/dict"
	"tinder/digit"
	"tinder/outer"
)

// A compiler makes a row of what a text was cut to. It is of no more use once something has been refused.
type compiler struct {
	row
	left     []api.Token    // what is still to be read
	codes    map[string]int // of each name that is known the newest code
	next     int            // the code that the next name gets
	compiles bool
	name     string // of the definition, while it compiles
	code     int    // its code, under which it isn't known yet
}

// compileAll: all of the text.
func (c *compiler) compileAll() api.Errno {
	for len(c.left) > 0 {
		if e := c.read(c.taken()); e != api.OK {
			return e
		}
	}
	if c.compiles {
		return api.ErrControl
	}
	c.layCodes(endCode)
	return api.OK
}

// taken: what is next in the text, of which there must be something.
func (c *compiler) taken() api.Token {
	t := c.left[0]
	c.left = c.left[1:]
	return t
}

func (c *compiler) read(t api.Token) api.Errno {
	switch {
	case t.Kind != api.TWord:
		c.text(t)
		return api.OK
	case c.compiles:
		return c.inside(t.Text)
	}
	return c.outside(t.Text)
}

// text: a text, and what shows it.
func (c *compiler) text(t api.Token) {
	c.lay(api.Tok{Code: textCode, Text: t.Text})
	if t.Kind == api.TPrint {
		c.layCodes(typeCode)
	}
}

// outside: a word outside of a definition.
func (c *compiler) outside(word string) api.Errno {
	if code, ok := makerCode(word); ok {
		return c.makeWord(code)
	}
	switch word {
	case ":":
		return c.begin()
	case "instance":
		return c.makeOfInstance()
	case "'":
		return c.withCode(wordCode)
	case "to":
		return c.withCode(toCode)
	case ";", "exit", "[']":
		return api.ErrControl
	}
	if len(outer.Acts(word)) > 0 {
		return api.ErrControl
	}
	return c.other(word)
}

// inside: a word inside of a definition.
func (c *compiler) inside(word string) api.Errno {
	if _, ok := makerCode(word); ok {
		return api.ErrControl
	}
	switch word {
	case ";":
		return c.finish()
	case ":", "instance", "'":
		return api.ErrControl
	case "exit":
		c.layCodes(exitCode)
		return api.OK
	case "[']":
		return c.withCode(wordCode)
	case "to":
		return c.withCode(toCode)
	}
	if acts := outer.Acts(word); len(acts) > 0 {
		return c.acts(acts)
	}
	return c.other(word)
}

// acts: one behind the other.
func (c *compiler) acts(acts []int) api.Errno {
	for _, a := range acts {
		if e := c.act(a); e != api.OK {
			return e
		}
	}
	return api.OK
}

// other: a word that says nothing of how to read on.
func (c *compiler) other(word string) api.Errno {
	if code, ok := c.codes[word]; ok {
		c.layCodes(code)
		return api.OK
	}
	if n, ok := digit.Literal(word); ok {
		c.lay(api.Tok{Code: numberCode, N: n})
		return api.OK
	}
	return api.ErrWord
}

// nextWord: the word that must be behind.
func (c *compiler) nextWord() (string, api.Errno) {
	if len(c.left) == 0 {
		return "", api.ErrText
	}
	t := c.taken()
	if t.Kind != api.TWord {
		return "", api.ErrText
	}
	return t.Text, api.OK
}

// withCode: a token with the code of the name that is behind.
func (c *compiler) withCode(code int) api.Errno {
	name, e := c.nextWord()
	if e != api.OK {
		return e
	}
	of, ok := c.codes[name]
	if !ok {
		return api.ErrWord
	}
	c.lay(api.Tok{Code: code, N: uint32(of)})
	return api.OK
}

// newName: the name behind a word that defines it, with the code that it gets.
func (c *compiler) newName() (string, int, api.Errno) {
	name, e := c.nextWord()
	if e != api.OK {
		return "", 0, e
	}
	if !dict.Named(name) {
		return "", 0, api.ErrText
	}
	if c.next > lastCode {
		return "", 0, api.ErrMany
	}
	code := c.next
	c.next++
	c.lay(api.Tok{Code: nameCode, Text: name, N: uint32(code)})
	return name, code, api.OK
}

// makeWord: a word by that code, which is known at once.
func (c *compiler) makeWord(by int) api.Errno {
	name, code, e := c.newName()
	if e != api.OK {
		return e
	}
	c.layCodes(by)
	c.codes[name] = code
	return api.OK
}

func (c *compiler) makeOfInstance() api.Errno {
	word, e := c.nextWord()
	if e != api.OK {
		return e
	}
	if word != "value" {
		return api.ErrText
	}
	c.layCodes(instanceCode)
	return c.makeWord(valueCode)
}

// begin: a definition.
func (c *compiler) begin() (e api.Errno) {
	c.name, c.code, e = c.newName()
	if e != api.OK {
		return e
	}
	c.layCodes(colonCode)
	c.compiles = true
	return api.OK
}

// finish: the definition, which is known from here on.
func (c *compiler) finish() api.Errno {
	if c.open() {
		return api.ErrControl
	}
	c.layCodes(finishCode)
	c.codes[c.name] = c.code
	c.compiles = false
	return api.OK
}
