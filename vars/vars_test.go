package vars_test

import (
	"bytes"
	"slices"
	"strings"
	"testing"

	"tinder/api"
	"tinder/nvram"
	"tinder/vars"
)

// variables: each name with its default, in order, and with a value and another one that may be set.
func variables() [][4]string {
	return [][4]string{
		{"auto-boot?", "true", "false", "false"},
		{"boot-device", "disk net", "disk:a", ""},
		{"boot-file", "", "vmunix -s", "~"},
		{"boot-limit", "5000", "7", "4294967295"},
		{"input-device", "keyboard", "tty", "a=b"},
		{"nvramrc", "", "1 2 + drop", " "},
		{"oem-banner", "", "hello", "!"},
		{"screen-turn", "0", "3", "1"},
		{"use-nvramrc?", "false", "true", "true"},
	}
}

// strangers: names of no variable.
func strangers() []string {
	return []string{"", "?", "zz", "auto-boot", "auto-boot?? ", "Auto-boot?", "AUTO-BOOT?", "boot", "boot-", "boot-devic", "boot-devices", " boot-file", "boot-file ", "boot-file\x00", "\x00", "boot-limit=", "boot_limit", "boot-limit=7", "use-nvramrc", "\xff", strings.Repeat("a", 1000)}
}

// numbers: the variables that are such.
func numbers() []string { return []string{"boot-limit", "screen-turn"} }

func texts() []string {
	return []string{"boot-device", "boot-file", "input-device", "nvramrc", "oem-banner"}
}

func bools() []string { return []string{"auto-boot?", "use-nvramrc?"} }

// P19.1: the names, in order.
func TestNames(t *testing.T) {
	l := vars.Names()
	if len(l) != len(variables()) {
		t.Fatalf("Names: %q", l)
	}
	for i, v := range variables() {
		if l[i] != v[0] {
			t.Errorf("Names, %d: %q; want %q", i, l[i], v[0])
		}
	}
}

// P19.1: the default of each, and of no other name.
func TestDefault(t *testing.T) {
	for _, v := range variables() {
		if got, e := vars.Default(v[0]); e != api.OK || got != v[1] {
			t.Errorf("Default(%q): %q, %v; want %q", v[0], got, e, v[1])
		}
	}
	for _, name := range strangers() {
		if got, e := vars.Default(name); e != api.ErrNone || got != "" {
			t.Errorf("Default(%.40q): %q, %v; want ErrNone", name, got, e)
		}
	}
}

// P19.1: a bool is true or false, and nothing else.
func TestFormOfBools(t *testing.T) {
	for _, name := range bools() {
		formed(t, name, "true", "true")
		formed(t, name, "false", "false")
		for _, value := range []string{"", "t", "True", "TRUE", "False", "yes", "no", "on", "1", "0", "-1", " true", "true ", "true\x00", "truefalse", "true false", "fals", "falsee", "\xff"} {
			unformed(t, name, value, api.ErrType)
		}
	}
}

// P19.1: a number is what layer 2 takes in base 10; its form is the number's digits.
func TestFormOfNumbers(t *testing.T) {
	for _, name := range numbers() {
		for _, c := range [][2]string{
			{"0", "0"}, {"00", "0"}, {"-0", "0"}, {"-000", "0"}, {"7", "7"}, {"007", "7"}, {"10", "10"}, {"5000", "5000"}, {"05000", "5000"},
			{"2147483647", "2147483647"}, {"2147483648", "2147483648"}, {"4294967295", "4294967295"}, {"0004294967295", "4294967295"},
			{"-1", "4294967295"}, {"-01", "4294967295"}, {"-2147483648", "2147483648"}, {"-4294967295", "1"}, {"-4294962296", "5000"},
			{strings.Repeat("0", 128) + "9", "9"}, {"-" + strings.Repeat("0", 1000) + "1", "4294967295"},
		} {
			formed(t, name, c[0], c[1])
		}
		for _, value := range []string{"", "-", "--1", "+1", "1-", "-1-", "0x10", "h#10", "d#10", "1f", "a", "A", " 7", "7 ", "7\x00", "\x007", "1.5", "1e3", "1_0", "1,0", "\xff", "٣", "true", "4294967296", "-4294967296", "99999999999999999999", "18446744073709551617", strings.Repeat("9", 129)} {
			unformed(t, name, value, api.ErrType)
		}
	}
}

// P19.1: a text is of bytes from 32 to 126, and its form is itself.
func TestFormOfTexts(t *testing.T) {
	for _, name := range texts() {
		for c := range 256 {
			b := string([]byte{byte(c)})
			for _, value := range []string{b, b + "ab", "a" + b + "b", "ab" + b, strings.Repeat("a", 127) + b, b + strings.Repeat("a", 127)} {
				if c >= 32 && c <= 126 {
					formed(t, name, value, value)
				} else {
					unformed(t, name, value, api.ErrType)
				}
			}
		}
		for _, value := range []string{"disk net", "keyboard", "", "true", "007", "-1", "  ", "a=b="} {
			formed(t, name, value, value)
		}
		unformed(t, name, "é", api.ErrType)
	}
}

// P19.1: a text is at most 128 bytes.
func TestLongTexts(t *testing.T) {
	for _, name := range texts() {
		for n := range 300 {
			if value := strings.Repeat("~", n); n <= 128 {
				formed(t, name, value, value)
			} else {
				unformed(t, name, value, api.ErrType)
			}
		}
		unformed(t, name, strings.Repeat(" ", 1<<16), api.ErrType)
		unformed(t, name, strings.Repeat("0", 128+256), api.ErrType)
	}
}

// P19.1, P1: where there is no such variable, that is told, whatever the value.
func TestFormOfStrangers(t *testing.T) {
	for _, name := range strangers() {
		for _, value := range []string{"", "true", "7", "-", "\n", strings.Repeat("a", 129)} {
			unformed(t, name, value, api.ErrNone)
		}
	}
}

// P19.1: each variable's setting alone is right, unless its value isn't in its form or is the default.
func TestRightAlone(t *testing.T) {
	for _, v := range variables() {
		for i, want := range []bool{false, true, true} {
			if got := vars.Right(settings(v[0], v[i+1])); got != want {
				t.Errorf("Right(%q=%q): %v", v[0], v[i+1], got)
			}
		}
	}
	for _, l := range [][]api.Setting{nil, {}} {
		if !vars.Right(l) {
			t.Errorf("Right of none: false")
		}
	}
}

// wrong: settings that aren't right, for each cause alone.
func wrong() [][]api.Setting {
	l := [][]api.Setting{
		settings("boot-limit", "07"), settings("boot-limit", "-1"), settings("boot-limit", ""), settings("boot-limit", "5000"), settings("boot-limit", "05000"),
		settings("boot-limit", "4294967296"), settings("boot-limit", "a"), settings("screen-turn", "00"), settings("screen-turn", "-0"),
		settings("auto-boot?", ""), settings("auto-boot?", "no"), settings("auto-boot?", "False"), settings("use-nvramrc?", "1"),
		settings("boot-file", "a\n"), settings("boot-file", "\x7f"), settings("boot-file", "\x1f"), settings("boot-file", "a\x00"), settings("boot-file", strings.Repeat("a", 129)),
		settings("boot-limit", "7", "boot-limit", "7"), settings("boot-limit", "7", "boot-limit", "8"),
		settings("boot-limit", "7", "boot-file", "a"), settings("use-nvramrc?", "true", "auto-boot?", "false"),
		settings("auto-boot?", "false", "boot-limit", "7", "boot-file", "a", "screen-turn", "1"),
		settings("auto-boot?", "false", "zz", "7", "screen-turn", "1"), settings("auto-boot?", "false", "boot-limit", "5000", "screen-turn", "1"),
		settings("auto-boot?", "false", "boot-limit", "7", "screen-turn", "01"), settings("boot-file=a", "b"),
		make([]api.Setting, 1), slices.Repeat(settings("boot-file", "a"), 100),
	}
	for _, name := range strangers() {
		l = append(l, settings(name, "7"), settings("boot-limit", "7", name, "true"), settings(name, "", "boot-limit", "7"))
	}
	return l
}

// P19.1: what isn't right is told so, and refused ahead of all else.
func TestWrongSettings(t *testing.T) {
	for _, l := range wrong() {
		if vars.Right(l) {
			t.Errorf("Right(%.80q)", l)
		}
		for _, name := range []string{"boot-limit", "auto-boot?", "zz", ""} {
			if got, e := vars.Get(l, name); e != api.ErrArg || got != "" {
				t.Errorf("Get(%.80q, %q): %q, %v; want ErrArg", l, name, got, e)
			}
			for _, value := range []string{"7", "5000", "\n"} {
				unput(t, l, name, value, api.ErrArg)
			}
		}
		if b, e := vars.Encode(l); e != api.ErrArg || len(b) != 0 {
			t.Errorf("Encode(%.80q): %q, %v; want ErrArg", l, b, e)
		}
		unsaved(t, make([]byte, 512), l, api.ErrArg)
		unsaved(t, nil, l, api.ErrArg)
	}
}

// P19.1: settings of each two variables are right in the variables' order alone.
func TestRightOrder(t *testing.T) {
	for i, v := range variables() {
		for j, w := range variables() {
			if l := settings(v[0], v[2], w[0], w[3]); vars.Right(l) != (i < j) {
				t.Errorf("Right(%q): %v", l, vars.Right(l))
			}
		}
	}
}

// P19.1: of a variable that is set its value, of any other one the default.
func TestGet(t *testing.T) {
	var all []api.Setting
	for i, v := range variables() {
		all = append(all, settings(v[0], v[2])...)
		for j, w := range variables() {
			got(t, nil, w[0], w[1])
			if j <= i {
				got(t, all, w[0], w[2])
			} else {
				got(t, all, w[0], w[1])
			}
			if j == i {
				got(t, settings(v[0], v[3]), w[0], w[3])
			} else {
				got(t, settings(v[0], v[3]), w[0], w[1])
			}
		}
	}
	for _, name := range strangers() {
		for _, l := range [][]api.Setting{nil, all} {
			if got, e := vars.Get(l, name); e != api.ErrNone || got != "" {
				t.Errorf("Get(%.40q): %q, %v; want ErrNone", name, got, e)
			}
		}
	}
}

// P19.1: a variable that is set comes to its place, with the form of the value; at its default it has no setting.
func TestSet(t *testing.T) {
	some := settings("boot-file", "a=b", "boot-limit", "7", "use-nvramrc?", "true")
	for _, c := range []struct {
		l           []api.Setting
		name, value string
		want        []api.Setting
	}{
		{nil, "boot-limit", "007", settings("boot-limit", "7")},
		{nil, "boot-limit", "-1", settings("boot-limit", "4294967295")},
		{nil, "boot-limit", "5000", nil},
		{nil, "boot-limit", "05000", nil},
		{nil, "boot-limit", "-4294962296", nil},
		{settings("boot-limit", "7"), "boot-limit", "5000", nil},
		{settings("boot-limit", "7"), "boot-limit", "0005000", nil},
		{settings("boot-limit", "7"), "boot-limit", "07", settings("boot-limit", "7")},
		{settings("boot-limit", "7"), "boot-limit", "8", settings("boot-limit", "8")},
		{settings("boot-limit", "7"), "screen-turn", "-0", settings("boot-limit", "7")},
		{settings("screen-turn", "1"), "screen-turn", "-0", nil},
		{nil, "boot-device", "", settings("boot-device", "")},
		{settings("boot-device", ""), "boot-device", "disk net", nil},
		{nil, "boot-device", "disk net ", settings("boot-device", "disk net ")},
		{nil, "auto-boot?", "true", nil},
		{nil, "auto-boot?", "false", settings("auto-boot?", "false")},
		{nil, "use-nvramrc?", "false", nil},
		{settings("use-nvramrc?", "true"), "use-nvramrc?", "true", settings("use-nvramrc?", "true")},
		{nil, "boot-file", "", nil},
		{nil, "boot-file", "boot-file", settings("boot-file", "boot-file")},
		{some, "auto-boot?", "false", settings("auto-boot?", "false", "boot-file", "a=b", "boot-limit", "7", "use-nvramrc?", "true")},
		{some, "boot-device", "d", settings("boot-device", "d", "boot-file", "a=b", "boot-limit", "7", "use-nvramrc?", "true")},
		{some, "input-device", "i", settings("boot-file", "a=b", "boot-limit", "7", "input-device", "i", "use-nvramrc?", "true")},
		{some, "screen-turn", "2", settings("boot-file", "a=b", "boot-limit", "7", "screen-turn", "2", "use-nvramrc?", "true")},
		{some, "boot-file", "", settings("boot-limit", "7", "use-nvramrc?", "true")},
		{some, "boot-file", "c", settings("boot-file", "c", "boot-limit", "7", "use-nvramrc?", "true")},
		{some, "boot-limit", "5000", settings("boot-file", "a=b", "use-nvramrc?", "true")},
		{some, "use-nvramrc?", "false", settings("boot-file", "a=b", "boot-limit", "7")},
		{some, "use-nvramrc?", "true", some},
	} {
		if m := put(t, c.l, c.name, c.value); !slices.Equal(m, c.want) || !vars.Right(m) {
			t.Errorf("Set(%q, %q, %q): %q; want %q", c.l, c.name, c.value, m, c.want)
		}
	}
}

// P19.1, P1: what can't be set is refused as Form refuses it, which of the errors comes first.
func TestSetRefused(t *testing.T) {
	l := settings("boot-file", "a=b", "boot-limit", "7")
	for _, name := range strangers() {
		unput(t, l, name, "7", api.ErrNone)
		unput(t, nil, name, "\n", api.ErrNone)
	}
	for _, c := range [][2]string{{"auto-boot?", "no"}, {"boot-limit", "4294967296"}, {"boot-limit", ""}, {"screen-turn", "-"}, {"oem-banner", "\n"}, {"oem-banner", strings.Repeat("a", 129)}, {"boot-file", "\x80"}} {
		unput(t, l, c[0], c[1], api.ErrType)
		unput(t, nil, c[0], c[1], api.ErrType)
	}
}

// P19.1: the bytes of settings, and the settings of bytes.
func TestBytes(t *testing.T) {
	for _, c := range []struct {
		l []api.Setting
		b string
	}{
		{nil, ""},
		{settings("boot-limit", "7"), "boot-limit=7\x00"},
		{settings("boot-device", ""), "boot-device=\x00"},
		{settings("boot-file", "a=b"), "boot-file=a=b\x00"},
		{settings("boot-file", "="), "boot-file==\x00"},
		{settings("boot-file", "boot-file=a"), "boot-file=boot-file=a\x00"},
		{settings("boot-file", " ~"), "boot-file= ~\x00"},
		{settings("auto-boot?", "false", "screen-turn", "4294967295"), "auto-boot?=false\x00screen-turn=4294967295\x00"},
		{settings("auto-boot?", "false", "boot-device", "a", "boot-file", "b", "boot-limit", "1", "input-device", "c", "nvramrc", "d", "oem-banner", "e", "screen-turn", "2", "use-nvramrc?", "true"),
			"auto-boot?=false\x00boot-device=a\x00boot-file=b\x00boot-limit=1\x00input-device=c\x00nvramrc=d\x00oem-banner=e\x00screen-turn=2\x00use-nvramrc?=true\x00"},
	} {
		if b, e := vars.Encode(c.l); e != api.OK || string(b) != c.b {
			t.Errorf("Encode(%q): %q, %v; want %q", c.l, b, e, c.b)
		}
		if l, e := vars.Decode([]byte(c.b)); e != api.OK || !slices.Equal(l, c.l) {
			t.Errorf("Decode(%q): %q, %v; want %q", c.b, l, e, c.l)
		}
	}
	if l, e := vars.Decode(nil); e != api.OK || len(l) != 0 {
		t.Errorf("Decode of nothing: %q, %v", l, e)
	}
}

// P19.1: bytes that aren't those of right settings.
func TestWrongBytes(t *testing.T) {
	for _, b := range []string{
		"\x00", "\x00\x00", "=", "=\x00", "=7\x00", "a", "zz=1\x00", "zz\x00", "boot-limit", "boot-limit\x00", "boot-limit=", "boot-limit=\x00", "boot-limit=7", "boot-limit=7\x00\x00", "\x00boot-limit=7\x00",
		"boot-limit=07\x00", "boot-limit=-1\x00", "boot-limit=5000\x00", "boot-limit=4294967296\x00", "boot-limit= 7\x00", "boot-limit =7\x00", " boot-limit=7\x00", "boot-limit==7\x00", "Boot-limit=7\x00", "boot-limit:7\x00",
		"boot-limit=7\x00boot-limit=7\x00", "boot-limit=7\x00boot-limit=8\x00", "boot-limit=7\x00boot-file=a\x00", "boot-limit=7 boot-file=a\x00", "boot-limit=7\x00screen-turn=1", "boot-limit=7\x00screen-turn", "boot-limit=7\x00x", "boot-limit=7\x00=",
		"auto-boot?=true\x00", "auto-boot?=no\x00", "auto-boot?=\x00", "use-nvramrc?=false\x00", "screen-turn=0\x00", "boot-file=\x00", "oem-banner=\n\x00", "oem-banner=\x7f\x00", "oem-banner=a\xff\x00", "boot-device=disk net\x00",
		"oem-banner=" + strings.Repeat("a", 129) + "\x00", "use-nvramrc?=true\x00auto-boot?=false\x00", strings.Repeat("a", 1000), strings.Repeat("boot-file=a\x00", 100), strings.Repeat("\x00", 1000), strings.Repeat("=\x00", 1000),
	} {
		undecoded(t, b)
	}
}

// P19.1: a byte of an encoded row, taken away or turned into any other one, is told wherever the row isn't that of other right settings.
func TestBytesOff(t *testing.T) {
	b := "auto-boot?=false\x00boot-limit=70\x00oem-banner=a=\x00"
	for at := range len(b) {
		l, e := vars.Decode([]byte(b[:at] + b[at+1:]))
		if want, we := modelDecode([]byte(b[:at] + b[at+1:])); e != we || !slices.Equal(l, want) {
			t.Errorf("without the byte %d: %q, %v; want %q, %v", at, l, e, want, we)
		}
		if at < len(b)-1 && b[at] != 0 {
			undecoded(t, b[:at+1])
		}
		for c := range 256 {
			other := []byte(b)
			other[at] = byte(c)
			l, e := vars.Decode(other)
			if want, we := modelDecode(other); e != we || !slices.Equal(l, want) {
				t.Errorf("the byte %d %02x: %q, %v; want %q, %v", at, c, l, e, want, we)
			}
		}
	}
}

// long: settings whose bytes are so many, from 23 to 277.
func long(n int) []api.Setting {
	n -= len("nvramrc=") + 1 + len("oem-banner=") + 1
	first := min(n-1, 128)
	return settings("nvramrc", strings.Repeat("a", first), "oem-banner", strings.Repeat("b", n-first))
}

// P19.1: the bytes are at most 248; Decode takes as many as right settings have.
func TestRoom(t *testing.T) {
	nv := make([]byte, 512)
	for n := 23; n <= 277; n++ {
		l := long(n)
		b, e := vars.Encode(l)
		if n <= 248 {
			if e != api.OK || !bytes.Equal(b, bytesOf(l)) || len(b) != n {
				t.Fatalf("Encode to %d bytes: %d, %v", n, len(b), e)
			}
			row := saved(t, nv, l)
			loaded(t, nvram.Apply(nv, row, len(row)), l)
		} else {
			if e != api.ErrRoom || len(b) != 0 {
				t.Fatalf("Encode to %d bytes: %d, %v", n, len(b), e)
			}
			unsaved(t, nv, l, api.ErrRoom)
			unsaved(t, nil, l, api.ErrRoom)
		}
		if m, e := vars.Decode(bytesOf(l)); e != api.OK || !slices.Equal(m, l) {
			t.Fatalf("Decode of %d bytes: %d, %v", n, len(m), e)
		}
	}
}

// most: all variables, with the longest values that there are.
func most() []api.Setting {
	a := strings.Repeat("~", 128)
	return settings("auto-boot?", "false", "boot-device", a, "boot-file", a, "boot-limit", "4294967295", "input-device", a, "nvramrc", a, "oem-banner", a, "screen-turn", "4294967295", "use-nvramrc?", "true")
}

// P19.1: the most that may be set is right, decoded and got, though there is no room to save it.
func TestMost(t *testing.T) {
	l := most()
	if !vars.Right(l) {
		t.Error("it isn't right")
	}
	if m, e := vars.Decode(bytesOf(l)); e != api.OK || !slices.Equal(m, l) {
		t.Errorf("Decode: %d, %v", len(m), e)
	}
	undecoded(t, string(bytesOf(l))+"use-nvramrc?=true\x00")
	unsaved(t, make([]byte, 512), l, api.ErrRoom)
	got(t, l, "use-nvramrc?", "true")
	if m := put(t, l, "boot-limit", "1"); len(m) != 9 || m[3].Value != "1" {
		t.Errorf("Set: %q", m)
	}
}

// P19.1: what the NVRAM has is loaded; nothing, where it has nothing, or no settings.
func TestLoad(t *testing.T) {
	loaded(t, holding(t, "boot-limit=7\x00"), settings("boot-limit", "7"))
	loaded(t, holding(t, ""), nil)
	for _, data := range []string{"a", "\x00", "boot-limit=7", "boot-limit=07\x00", "boot-limit=7\x00boot-file=a\x00", "boot-limit=7\x00zz=1\x00", "boot-limit=7\x00\x00"} {
		loaded(t, holding(t, data), nil)
	}
	nv := holding(t, "boot-limit=7\x00")
	for n := range 512 {
		loaded(t, nv[:n], nil)
	}
	loaded(t, append(slices.Clone(nv), 0), nil)
	loaded(t, nil, nil)
	nv[0] = 0
	loaded(t, nv, nil)
}

// P19.1: of two banks the one that counts is loaded, were its data no settings.
func TestLoadWhatCounts(t *testing.T) {
	nv := holding(t, "boot-limit=7\x00")
	for _, data := range []string{"boot-limit=8\x00", "zz", "", "boot-limit=9\x00"} {
		row, e := nvram.Plan(nv, []byte(data))
		if e != api.OK {
			t.Fatal(e)
		}
		nv = nvram.Apply(nv, row, len(row))
		want, _ := modelDecode([]byte(data))
		loaded(t, nv, want)
	}
}

// P19.1: settings are saved as layer 18 plans their bytes, with its error where the NVRAM isn't one.
func TestSave(t *testing.T) {
	l := settings("boot-file", "a=b", "boot-limit", "7")
	nv := make([]byte, 512)
	for range 4 {
		row := saved(t, nv, l)
		if want, e := nvram.Plan(nv, []byte("boot-file=a=b\x00boot-limit=7\x00")); e != api.OK || !slices.Equal(row, want) {
			t.Fatalf("Save: %v; want %v", row, want)
		}
		nv = nvram.Apply(nv, row, len(row))
	}
	if row := saved(t, nv, nil); len(row) != 9 {
		t.Errorf("Save of none: %v", row)
	}
	for _, n := range []int{0, 1, 256, 511, 513, 1024} {
		unsaved(t, make([]byte, n), l, api.ErrArg)
		unsaved(t, make([]byte, n), nil, api.ErrArg)
		unsaved(t, make([]byte, n), settings("zz", "1"), api.ErrArg)
		unsaved(t, make([]byte, n), most(), api.ErrRoom)
	}
}
