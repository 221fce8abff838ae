package fcode

import "tinder/api"

// The codes of what no word of layer 9 does, but for the branches.
const (
	endCode      = 0x00 // of the program
	numberCode   = 0x10
	wordCode     = 0x11 // another word's number
	textCode     = 0x12
	exitCode     = 0x33
	bareCode     = 0xb5 // ahead of what makes a word without a name
	nameCode     = 0xb6 // ahead of what makes a word with one
	colonCode    = 0xb7
	valueCode    = 0xb8
	variableCode = 0xb9
	constantCode = 0xba
	deferCode    = 0xbc
	bufferCode   = 0xbd
	instanceCode = 0xc0 // ahead of a name: it is one of an instance
	finishCode   = 0xc2 // of what a colon began
	toCode       = 0xc3
	externalCode = 0xca // as nameCode
	widenCode    = 0xcc // offsets are wide from here on, which concerns whoever reads the bytes
	lastCode     = 0xff // an end like 0
)

// Which of a branch's acts an offset means.
const (
	ahead = 0 // one of 0 or more
	back  = 1 // one below 0
)

// A branch is a code that only builds: the acts that it stands for.
type branch struct {
	code int
	acts [2]int
}

// branches: all of them, most of which mean the same whatever their offset, if they have one at all.
var branches = [...]branch{
	{0x13, [2]int{ahead: api.AAhead, back: api.AAgain}},
	{0x14, [2]int{ahead: api.AIf, back: api.AUntil}},
	{0x15, [2]int{ahead: api.ALoop, back: api.ALoop}},
	{0x16, [2]int{ahead: api.APlus, back: api.APlus}},
	{0x17, [2]int{ahead: api.ADo, back: api.ADo}},
	{0x18, [2]int{ahead: api.AQDo, back: api.AQDo}},
	{0x1b, [2]int{ahead: api.ALeave, back: api.ALeave}},
	{0x1c, [2]int{ahead: api.AOf, back: api.AOf}},
	{0xb1, [2]int{ahead: api.ABegin, back: api.ABegin}},
	{0xb2, [2]int{ahead: api.AThen, back: api.AThen}},
	{0xc4, [2]int{ahead: api.ACase, back: api.ACase}},
	{0xc5, [2]int{ahead: api.AEndcase, back: api.AEndcase}},
	{0xc6, [2]int{ahead: api.AEndof, back: api.AEndof}},
}

// actOf: the act that a token stands for, and whether it stands for one.
func actOf(t api.Tok) (int, bool) {
	way := ahead
	if t.Off < 0 {
		way = back
	}
	for _, b := range branches {
		if b.code == t.Code {
			return b.acts[way], true
		}
	}
	return 0, false
}

// ends: does the program end with it?
func ends(t api.Tok) bool {
	return t.Code == endCode || t.Code == lastCode
}

// names: is it a name, or that there is none?
func names(code int) bool {
	return code == bareCode || code == nameCode || code == externalCode
}

// makes: does it make a word of the name ahead, or begin one?
func makes(code int) bool {
	switch code {
	case colonCode, valueCode, variableCode, constantCode, deferCode, bufferCode:
		return true
	}
	return false
}
