package fcc

import "tinder/dict"

// The codes of what no word of layer 9 does.
const (
	endCode      = 0x00 // behind all
	numberCode   = 0x10
	wordCode     = 0x11 // another word's number
	textCode     = 0x12
	branchCode   = 0x13
	zeroCode     = 0x14 // a branch, if 0
	loopCode     = 0x15
	plusCode     = 0x16
	doCode       = 0x17
	questionCode = 0x18 // a do that may have nothing to do
	leaveCode    = 0x1b
	ofCode       = 0x1c
	exitCode     = 0x33
	backCode     = 0xb1 // a place to come back to
	thereCode    = 0xb2 // the place of a branch ahead
	nameCode     = 0xb6 // ahead of what makes a word
	colonCode    = 0xb7
	valueCode    = 0xb8
	variableCode = 0xb9
	constantCode = 0xba
	deferCode    = 0xbc
	bufferCode   = 0xbd
	instanceCode = 0xc0 // ahead of a name: it is one of an instance
	finishCode   = 0xc2 // of what a colon began
	toCode       = 0xc3
	caseCode     = 0xc4
	endcaseCode  = 0xc5
	endofCode    = 0xc6
)

// typeCode is that of layer 9's word type, which shows printed texts whatever other words are called so.
const typeCode = 0x90

// The codes that are given to names.
const (
	firstCode = 0x800
	lastCode  = 0xfff
)

// firstCodes: the names that are known in the beginning, with their codes.
func firstCodes() map[string]int {
	codes := map[string]int{}
	for _, p := range dict.Prims() {
		codes[p.Name] = p.Code
	}
	return codes
}

// makerCode: the code of a word that makes another one of the name behind it, and whether it does; but for :, which begins one.
func makerCode(word string) (int, bool) {
	switch word {
	case "constant":
		return constantCode, true
	case "value":
		return valueCode, true
	case "variable":
		return variableCode, true
	case "defer":
		return deferCode, true
	case "buffer:":
		return bufferCode, true
	}
	return 0, false
}
