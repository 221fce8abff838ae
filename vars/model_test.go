package vars_test

import (
	"bytes"
	"maps"
	"math/big"
	"regexp"
	"slices"
	"strings"

	"tinder/api"
	"tinder/nvram"
)

// The model keeps settings in a map, tells a value by a pattern, and reads bytes by one pattern for all variables at once.

var order = strings.Fields("auto-boot? boot-device boot-file boot-limit input-device nvramrc oem-banner screen-turn use-nvramrc?")

var usual = map[string]string{"auto-boot?": "true", "boot-device": "disk net", "boot-limit": "5000", "input-device": "keyboard", "screen-turn": "0", "use-nvramrc?": "false"}

const (
	boolForm   = `true|false`
	numberForm = `0|[1-9][0-9]{0,9}`
	textForm   = `[ -~]{0,128}`
)

func pattern(name string) string {
	switch {
	case strings.HasSuffix(name, "?"):
		return boolForm
	case name == "boot-limit" || name == "screen-turn":
		return numberForm
	}
	return textForm
}

var (
	whole  = func(p string) *regexp.Regexp { return regexp.MustCompile(`\A(?:` + p + `)\z`) }
	number = whole(`-?[0-9]+`)
	values = map[string]*regexp.Regexp{boolForm: whole(boolForm), numberForm: whole(numberForm), textForm: whole(textForm)}
	stream = whole(streamPattern())
)

func streamPattern() string {
	p := ""
	for _, name := range order {
		p += `(?:` + regexp.QuoteMeta(name) + `=(` + pattern(name) + `)\x00)?`
	}
	return p
}

func known(name string) bool { return slices.Contains(order, name) }

func modelForm(name, value string) (string, api.Errno) {
	if !known(name) {
		return "", api.ErrNone
	}
	if pattern(name) != numberForm {
		if !values[pattern(name)].MatchString(value) {
			return "", api.ErrType
		}
		return value, api.OK
	}
	var n big.Int
	if _, ok := n.SetString(value, 10); !ok || !number.MatchString(value) || n.BitLen() > 32 {
		return "", api.ErrType
	}
	return n.Mod(&n, new(big.Int).Lsh(big.NewInt(1), 32)).String(), api.OK
}

// modelKeeps: a value that a setting may have.
func modelKeeps(name, value string) bool {
	if value == usual[name] || !values[pattern(name)].MatchString(value) {
		return false
	}
	n, ok := new(big.Int).SetString(value, 10)
	return pattern(name) != numberForm || ok && n.BitLen() <= 32
}

// book: settings by their names.
func book(l []api.Setting) map[string]string {
	m := map[string]string{}
	for _, x := range l {
		m[x.Name] = x.Value
	}
	return m
}

// listed: the settings of a book, without what may not stand there.
func listed(m map[string]string) []api.Setting {
	var l []api.Setting
	for _, name := range order {
		if value, ok := m[name]; ok && modelKeeps(name, value) {
			l = append(l, api.Setting{Name: name, Value: value})
		}
	}
	return l
}

func modelRight(l []api.Setting) bool { return slices.Equal(l, listed(book(l))) }

func modelGet(l []api.Setting, name string) (string, api.Errno) {
	if !modelRight(l) {
		return "", api.ErrArg
	}
	if !known(name) {
		return "", api.ErrNone
	}
	all := maps.Clone(usual)
	maps.Copy(all, book(l))
	return all[name], api.OK
}

func modelSet(l []api.Setting, name, value string) ([]api.Setting, api.Errno) {
	if !modelRight(l) {
		return nil, api.ErrArg
	}
	form, e := modelForm(name, value)
	if e != api.OK {
		return nil, e
	}
	m := book(l)
	m[name] = form
	return listed(m), api.OK
}

func modelEncode(l []api.Setting) ([]byte, api.Errno) {
	if !modelRight(l) {
		return nil, api.ErrArg
	}
	b := bytesOf(l)
	if len(b) > 248 {
		return nil, api.ErrRoom
	}
	return b, api.OK
}

// bytesOf: of settings of any kind.
func bytesOf(l []api.Setting) []byte {
	var b bytes.Buffer
	for _, x := range l {
		b.WriteString(x.Name + "=" + x.Value + "\x00")
	}
	return b.Bytes()
}

func modelDecode(b []byte) ([]api.Setting, api.Errno) {
	found := stream.FindSubmatchIndex(b)
	if found == nil {
		return nil, api.ErrText
	}
	var l []api.Setting
	for i, at := range slices.Collect(slices.Chunk(found[2:], 2)) {
		if at[0] >= 0 {
			l = append(l, api.Setting{Name: order[i], Value: string(b[at[0]:at[1]])})
		}
	}
	if !modelRight(l) {
		return nil, api.ErrText
	}
	return l, api.OK
}

func modelLoad(nv []byte) []api.Setting {
	b, _, ok := nvram.Recover(nv)
	l, e := modelDecode(b)
	if !ok || e != api.OK {
		return nil
	}
	return l
}

func modelSave(nv []byte, l []api.Setting) ([]api.Byte, api.Errno) {
	b, e := modelEncode(l)
	if e != api.OK {
		return nil, e
	}
	return nvram.Plan(nv, b)
}
