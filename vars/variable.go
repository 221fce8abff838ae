package vars

import (
	"slices"
	"strings"

	"tinder/api"
	"tinder/digit"
)

// A kind says what values a variable may have.
type kind int

const (
	boolKind kind = iota
	numberKind
	textKind
)

// The texts of bools.
const (
	yes = "true"
	no  = "false"
)

const (
	base      = 10
	leastText = 32 // the least byte of a text
	mostText  = 126
	none      = -1 // the place of a variable that there isn't
)

type variable struct {
	name  string
	kind  kind
	usual string // its default
}

// table has the variables in their order; a variable's place is that in it.
var table = [...]variable{
	{"auto-boot?", boolKind, yes},
	{"boot-device", textKind, "disk net"},
	{"boot-file", textKind, ""},
	{"boot-limit", numberKind, "5000"},
	{"input-device", textKind, "keyboard"},
	{"nvramrc", textKind, ""},
	{"oem-banner", textKind, ""},
	{"screen-turn", numberKind, "0"},
	{"use-nvramrc?", boolKind, no},
}

// placeOf: a name's variable, or none.
func placeOf(name string) int {
	return place(func(v variable) bool { return v.name == name })
}

// place: of the first variable that is asked for, or none.
func place(asked func(variable) bool) int {
	for k, v := range table {
		if asked(v) {
			return k
		}
	}
	return none
}

// form: of a value, or api.ErrType.
func (v variable) form(value string) (string, api.Errno) {
	switch v.kind {
	case boolKind:
		if value != yes && value != no {
			return "", api.ErrType
		}
	case numberKind:
		return numberForm(value)
	case textKind:
		if !isText(value) {
			return "", api.ErrType
		}
	}
	// A clone, as in method in, since what is answered shares nothing with an argument.
	return strings.Clone(value), api.OK
}

// keeps: may the variable's setting have this value?
func (v variable) keeps(value string) bool {
	form, e := v.form(value)
	return e == api.OK && form == value && value != v.usual
}

// in: the variable's value, as settings that are right have it.
func (v variable) in(l []api.Setting) string {
	i := slices.IndexFunc(l, func(x api.Setting) bool { return x.Name == v.name })
	if i < 0 {
		return v.usual
	}
	return strings.Clone(l[i].Value)
}

// numberForm: of a number's text, or api.ErrType: what layer 2 finds wrong with it makes no odds here.
func numberForm(value string) (string, api.Errno) {
	n, e := digit.Parse(value, base)
	if e != api.OK {
		return "", api.ErrType
	}
	return digit.Show(n, base)
}

func isText(s string) bool {
	if len(s) > api.MaxValue {
		return false
	}
	for i := range len(s) {
		if s[i] < leastText || s[i] > mostText {
			return false
		}
	}
	return true
}
