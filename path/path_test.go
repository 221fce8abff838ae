package path_test

import (
	"slices"
	"strings"
	"testing"

	"tinder/api"
	"tinder/path"
)

// step: a step of a name, arguments and a unit address.
func step(name, args string, unit ...uint32) api.Step {
	return api.Step{Name: name, Unit: unit, Args: args}
}

// alike: are they the same step?
func alike(a, b api.Step) bool {
	return a.Name == b.Name && a.Args == b.Args && slices.Equal(a.Unit, b.Unit)
}

// parses: a text, and the steps that it is parsed as.
type parses struct {
	s    string
	want []api.Step
}

func holdParses(t *testing.T, table []parses) {
	t.Helper()
	for _, c := range table {
		if l, e := path.Parse(c.s); e != api.OK || !slices.EqualFunc(l, c.want, alike) {
			t.Errorf("%q: %v, %v; want %v", c.s, l, e, c.want)
		}
	}
}

// refuses: each text is refused by the error, with no steps beside it.
func refuses(t *testing.T, want api.Errno, texts ...string) {
	t.Helper()
	for _, s := range texts {
		if l, e := path.Parse(s); e != want || len(l) != 0 {
			t.Errorf("%q: %v, %v; want %v", s, l, e, want)
		}
	}
}

// P7.1: the examples of the chapter.
func TestExamples(t *testing.T) {
	holdParses(t, []parses{
		{"/pci@1f,0/disk:2,a", []api.Step{step("pci", "", 31, 0), step("disk", "2,a")}},
	})
	refuses(t, api.ErrText, "/a@", "//a")
	if s, e := path.Expand("disk:x/y", []api.Alias{{Name: "disk", Path: "/pci/disk:0"}}); s != "/pci/disk:x/y" || e != api.OK {
		t.Errorf("expanded: %q, %v", s, e)
	}
	if s, args := path.Tail("/a:b/c:d:e"); s != "/a:b/c" || args != "d:e" {
		t.Errorf("the tail: %q, %q", s, args)
	}
}

// P7.1: a path is / alone, or steps of names with and without unit addresses and arguments.
func TestParse(t *testing.T) {
	holdParses(t, []parses{
		{"/", nil},
		{"/a", []api.Step{step("a", "")}},
		{"/a/b/c", []api.Step{step("a", ""), step("b", ""), step("c", "")}},
		{"/a/a", []api.Step{step("a", ""), step("a", "")}},
		{"/a@0", []api.Step{step("a", "", 0)}},
		{"/a@ffffffff", []api.Step{step("a", "", 1<<32-1)}},
		{"/a@0000001f,00", []api.Step{step("a", "", 31, 0)}},
		{"/a@1F,aB", []api.Step{step("a", "", 31, 171)}},
		{"/a@1,2,3,4", []api.Step{step("a", "", 1, 2, 3, 4)}},
		{"/a:x", []api.Step{step("a", "x")}},
		{"/a@1:x", []api.Step{step("a", "x", 1)}},
		{"/a@1:x/b@2,3:y/c", []api.Step{step("a", "x", 1), step("b", "y", 2, 3), step("c", "")}},
		{"/a,b.c-d_e+f", []api.Step{step("a,b.c-d_e+f", "")}},
		{"/" + strings.Repeat("n", api.MaxName) + "@1:x", []api.Step{step(strings.Repeat("n", api.MaxName), "x", 1)}},
	})
}

// P7.1: arguments go from the first : of a step to the next / , with @ and : among them, and may be none.
func TestParseArguments(t *testing.T) {
	holdParses(t, []parses{
		{"/a:", []api.Step{step("a", "")}},
		{"/a@1:", []api.Step{step("a", "", 1)}},
		{"/a:/b:", []api.Step{step("a", ""), step("b", "")}},
		{"/a::", []api.Step{step("a", ":")}},
		{"/a:b:c:", []api.Step{step("a", "b:c:")}},
		{"/a:@", []api.Step{step("a", "@")}},
		{"/a:b@zz", []api.Step{step("a", "b@zz")}},
		{"/a@1:@2:@3", []api.Step{step("a", "@2:@3", 1)}},
		{"/a:A Z\x00\n\xff\\[]", []api.Step{step("a", "A Z\x00\n\xff\\[]")}},
		{"/a: ", []api.Step{step("a", " ")}},
		{"/a:b@c/d@e:f", []api.Step{step("a", "b@c"), step("d", "f", 14)}},
	})
}

// P7.1: what is no path is refused.
func TestParseRefuses(t *testing.T) {
	refuses(t, api.ErrText,
		"", "a", "a/b", "disk", " /a", "@1", ":x", "\\a",
		"//", "///", "//a", "/a//b", "/a//", "/a/", "/a@1/", "/a:x/", "/a:/",
		"/@1", "/:x", "/@1:x", "/a/@1", "/a/:x", "/@", "/:",
		"/A", "/aB", "/a b", "/a\x00", "/a\x7f", "/\xc3\xa4", "/a\\b", "/a[", "/]", "/ ", "/a/B/c",
		"/"+strings.Repeat("n", api.MaxName+1), "/a/"+strings.Repeat("n", api.MaxName+1)+":x",
		"/a@", "/a@:", "/a@:x", "/a@/b", "/a@,", "/a@1,", "/a@,1", "/a@1,,2", "/a@g", "/a@-1", "/a@+1", "/a@0x1", "/a@1 ",
		"/a@1@2", "/a@@1", "/a@1@", "/a@123456789", "/a@000000001",
		"/a@1,2,3,4,5", "/a@1,2,3,4,5:x", "/a@1,2,3,4,", "/a@1,2,3,4,g", "/b/a@0,0,0,0,0/c")
}

// P7.1: which bytes a name has, and which its arguments.
func TestParseEachByte(t *testing.T) {
	for c := range 256 {
		b := string([]byte{byte(c)})
		named := c >= 33 && c <= 126 && !strings.Contains(`/\:[]@ABCDEFGHIJKLMNOPQRSTUVWXYZ`, b)
		switch {
		case named:
			holdParses(t, []parses{{"/x" + b + "y", []api.Step{step("x"+b+"y", "")}}})
		case b == "/":
			holdParses(t, []parses{{"/x/y", []api.Step{step("x", ""), step("y", "")}}})
		case b == ":":
			holdParses(t, []parses{{"/x:y", []api.Step{step("x", "y")}}})
		default:
			refuses(t, api.ErrText, "/x"+b+"y")
		}
		if b != "/" {
			holdParses(t, []parses{{"/x:" + b, []api.Step{step("x", b)}}, {"/x@1:y" + b + "z/w", []api.Step{step("x", "y"+b+"z", 1), step("w", "")}}})
		}
	}
}

// P7.1: a path has 256 bytes at most, and its length counts more than what it holds.
func TestParseLength(t *testing.T) {
	args := strings.Repeat("x", api.MaxPath-3)
	holdParses(t, []parses{
		{"/a:" + args, []api.Step{step("a", args)}},
		{strings.Repeat("/a", api.MaxPath/2), slices.Repeat([]api.Step{step("a", "")}, api.MaxPath/2)},
	})
	refuses(t, api.ErrLong, "/a:"+args+"x", strings.Repeat("/a", api.MaxPath/2)+"a", strings.Repeat("/", api.MaxPath+1),
		strings.Repeat("A", api.MaxPath+1), "/a@1,2,3,4,5:"+args, "/a:"+strings.Repeat("x", 5000))
	refuses(t, api.ErrText, strings.Repeat("/", api.MaxPath), strings.Repeat("A", api.MaxPath), strings.Repeat("/a", api.MaxPath/2-1)+"a/")
}

// shows: steps, and the path that they are shown as.
type shows struct {
	l    []api.Step
	want string
}

// P7.1: the path of steps.
func TestShow(t *testing.T) {
	for _, c := range []shows{
		{nil, "/"},
		{[]api.Step{}, "/"},
		{[]api.Step{step("a", "")}, "/a"},
		{[]api.Step{{Name: "a", Unit: []uint32{}}}, "/a"},
		{[]api.Step{step("a", ""), step("b", ""), step("a", "")}, "/a/b/a"},
		{[]api.Step{step("a", "", 0)}, "/a@0"},
		{[]api.Step{step("pci", "", 31, 0), step("disk", "2,a")}, "/pci@1f,0/disk:2,a"},
		{[]api.Step{step("a", "x", 255), step("b", "")}, "/a@ff:x/b"},
		{[]api.Step{step("a", "", 1, 2, 3, 1<<32-1)}, "/a@1,2,3,ffffffff"},
		{[]api.Step{step("a", ":")}, "/a::"},
		{[]api.Step{step("a", "@1:b")}, "/a:@1:b"},
		{[]api.Step{step("a", "A \x00\n\xff\\[]", 10)}, "/a@a:A \x00\n\xff\\[]"},
		{[]api.Step{step(strings.Repeat("n", api.MaxName), "")}, "/" + strings.Repeat("n", api.MaxName)},
	} {
		if s, e := path.Show(c.l); s != c.want || e != api.OK {
			t.Errorf("%v: %q, %v; want %q", c.l, s, e, c.want)
		}
	}
}

// notShown: the steps are refused by the error, with no text beside it.
func notShown(t *testing.T, want api.Errno, l ...api.Step) {
	t.Helper()
	if s, e := path.Show(l); s != "" || e != want {
		t.Errorf("%v: %q, %v; want %v", l, s, e, want)
	}
}

// P7.1: a name that is none, a unit address of too many numbers and arguments with a / are not shown, at any place.
func TestShowRefuses(t *testing.T) {
	good := step("a", "x", 1)
	var bad []api.Step
	for _, name := range []string{"", "A", "aB", "a b", "a@", "a@1", "a:", "a/b", "/", "[", "]", `\`, " ", "a\x00", "\x7f", "\xc3\xa4", strings.Repeat("n", api.MaxName+1), strings.Repeat("n", 5000)} {
		bad = append(bad, step(name, ""), step(name, "x", 1))
	}
	for _, args := range []string{"/", "x/", "/x", "a/b", "a:b/c", strings.Repeat("x", api.MaxPath) + "/"} {
		bad = append(bad, step("a", args), step("a", args, 1, 2))
	}
	bad = append(bad, step("a", "", 0, 0, 0, 0, 0), step("a", "x", 1, 2, 3, 4, 5), step("a", "", make([]uint32, 5000)...), api.Step{})
	for _, s := range bad {
		notShown(t, api.ErrArg, s)
		notShown(t, api.ErrArg, s, good)
		notShown(t, api.ErrArg, good, s)
		notShown(t, api.ErrArg, good, s, good)
	}
}

// P7.1: what is shown has 256 bytes at most, and a step that can't be shown counts more than a long path.
func TestShowLength(t *testing.T) {
	full := strings.Repeat("x", api.MaxPath-3)
	if s, e := path.Show([]api.Step{step("a", full)}); s != "/a:"+full || e != api.OK {
		t.Errorf("a full path: %q, %v", s, e)
	}
	notShown(t, api.ErrLong, step("a", full+"x"))
	notShown(t, api.ErrLong, step("a", full), step("b", ""))
	notShown(t, api.ErrLong, step("a", strings.Repeat("x", 5000)))
	many := slices.Repeat([]api.Step{step("a", "")}, api.MaxPath/2)
	if s, e := path.Show(many); s != strings.Repeat("/a", api.MaxPath/2) || e != api.OK {
		t.Errorf("many steps: %q, %v", s, e)
	}
	many[5].Name = "ab"
	notShown(t, api.ErrLong, many...)
	notShown(t, api.ErrArg, step("a", full+"x"), step("A", ""))
	notShown(t, api.ErrArg, step("a", full+"x"), step("a", "/"))
	notShown(t, api.ErrArg, step("a", full+"x"), step("a", "", 1, 2, 3, 4, 5))
}

// some: aliases of all kinds, also such as are never found.
func some() []api.Alias {
	return []api.Alias{
		{Name: "disk", Path: "/pci:q/disk:0"},
		{Name: "disk", Path: "/no"},
		{Name: "net", Path: "/pci:q/net"},
		{Name: "tty", Path: "/tty"},
		{Name: "many", Path: "/a:b/c:d:e"},
		{Name: "end", Path: "/a:b/"},
		{Name: "bare", Path: "x:y"},
		{Name: "Great One", Path: "no path: "},
		{Name: "none", Path: ""},
		{Name: "a/b", Path: "/never"},
		{Name: "a:b", Path: "/never"},
		{Name: "/", Path: "/never"},
		{Name: "/z", Path: "/never"},
	}
}

// P7.1: a text with / ahead stands for itself, an alias's name for its path, with the rest behind.
func TestExpand(t *testing.T) {
	for _, c := range [][2]string{
		{"/", "/"}, {"/z", "/z"}, {"/disk:x", "/disk:x"}, {"//", "//"}, {"/A@:", "/A@:"},
		{"disk", "/pci:q/disk:0"}, {"disk/y", "/pci:q/disk:0/y"}, {"disk:x", "/pci:q/disk:x"}, {"disk:x/y", "/pci:q/disk:x/y"},
		{"disk:", "/pci:q/disk:"}, {"disk/", "/pci:q/disk:0/"}, {"disk/y:z", "/pci:q/disk:0/y:z"}, {"disk::", "/pci:q/disk::"},
		{"net", "/pci:q/net"}, {"net/y", "/pci:q/net/y"}, {"net:x", "/pci:q/net:x"}, {"net:x:y", "/pci:q/net:x:y"},
		{"tty:x", "/tty:x"}, {"tty/y", "/tty/y"}, {"tty//", "/tty//"}, {"tty:\xff\x00", "/tty:\xff\x00"},
		{"many", "/a:b/c:d:e"}, {"many:x", "/a:b/c:x"}, {"many/x", "/a:b/c:d:e/x"},
		{"end:x", "/a:b/:x"}, {"end", "/a:b/"},
		{"bare", "x:y"}, {"bare:z", "x:z"}, {"bare/z", "x:y/z"},
		{"Great One", "no path: "}, {"Great One:x", "no path:x"},
		{"none", ""}, {"none:x", ":x"}, {"none/x", "/x"},
	} {
		if s, e := path.Expand(c[0], some()); s != c[1] || e != api.OK {
			t.Errorf("%q: %q, %v; want %q", c[0], s, e, c[1])
		}
	}
}

// P7.1: a name of no alias is refused, with no text beside it.
func TestExpandRefuses(t *testing.T) {
	for _, s := range []string{"", ":x", ":", "dis", "diskk", "DISK", "disk@1", "disk ", " disk", "a/b", "a:b", "great one", "\xff", "\xff/disk", strings.Repeat("x", 5000)} {
		if got, e := path.Expand(s, some()); got != "" || e != api.ErrNone {
			t.Errorf("%q: %q, %v", s, got, e)
		}
		if got, e := path.Expand(s, nil); got != "" || e != api.ErrNone {
			t.Errorf("%q of no aliases: %q, %v", s, got, e)
		}
	}
}

// P7.1: an alias of no name is found by a text that begins with : , or by none.
func TestExpandNoName(t *testing.T) {
	l := []api.Alias{{Name: "", Path: "/a:b"}}
	for s, want := range map[string]string{"": "/a:b", ":c": "/a:c", "/c": "/c"} {
		if got, e := path.Expand(s, l); got != want || e != api.OK {
			t.Errorf("%q: %q, %v; want %q", s, got, e, want)
		}
	}
}

// P7.1: a text with / ahead stands for itself, whatever its length and whatever the aliases are.
func TestExpandItself(t *testing.T) {
	for _, n := range []int{0, 1, 254, 255, 256, 257, 5000} {
		for _, rest := range []string{"", ":", "/y:z"} {
			s := "/" + strings.Repeat("x", n) + rest
			for _, l := range [][]api.Alias{nil, some(), {{Name: "", Path: "/no"}}, {{Name: s, Path: "/no"}}} {
				if got, e := path.Expand(s, l); got != s || e != api.OK {
					t.Errorf("%d bytes: %.9q, %v", len(s), got, e)
				}
			}
		}
	}
}

// P7.1: what comes of an alias has 256 bytes at most, whatever the name's and the alias's lengths are.
func TestExpandLength(t *testing.T) {
	x := func(n int) string { return strings.Repeat("x", n) }
	l := []api.Alias{{Name: "d", Path: "/a:" + x(253)}, {Name: "e", Path: "/a:" + x(254)}, {Name: x(300), Path: "/b"}}
	for _, c := range []struct {
		s    string
		want string
		e    api.Errno
	}{
		{"d", "/a:" + x(253), api.OK},
		{"d/", "", api.ErrLong},
		{"d:" + x(253), "/a:" + x(253), api.OK},
		{"d:" + x(254), "", api.ErrLong},
		{"e", "", api.ErrLong},
		{"e/", "", api.ErrLong},
		{"e:", "/a:", api.OK},
		{x(300) + "/" + x(253), "/b/" + x(253), api.OK},
		{x(300) + "/" + x(254), "", api.ErrLong},
		{x(299), "", api.ErrNone},
	} {
		if s, e := path.Expand(c.s, l); s != c.want || e != c.e {
			t.Errorf("%.9q of %d bytes: %q, %v; want %q, %v", c.s, len(c.s), s, e, c.want, c.e)
		}
	}
}

// P7.1: the bytes behind the last / are parted at their first : .
func TestTail(t *testing.T) {
	long := strings.Repeat("x", 5000)
	for _, c := range [][3]string{
		{"", "", ""}, {"a", "a", ""}, {"a:b", "a", "b"}, {"a:b:c", "a", "b:c"}, {":", "", ""}, {":a", "", "a"}, {"::", "", ":"}, {"a:", "a", ""},
		{"/", "/", ""}, {"/a", "/a", ""}, {"/a:b", "/a", "b"}, {"/a/b:c", "/a/b", "c"}, {"/a:", "/a", ""},
		{"/a:b/c", "/a:b/c", ""}, {"a:b/", "a:b/", ""}, {"/a:b/c:d:e", "/a:b/c", "d:e"}, {"/a:b/:", "/a:b/", ""}, {"//:x", "//", "x"},
		{"/a@1:b@2", "/a@1", "b@2"}, {"\xff:\x00", "\xff", "\x00"}, {"\xff/\xc3:\xe4:", "\xff/\xc3", "\xe4:"},
		{long, long, ""}, {"/" + long + ":" + long, "/" + long, long},
	} {
		if s, args := path.Tail(c[0]); s != c[1] || args != c[2] {
			t.Errorf("%.20q: %.20q, %.20q; want %.20q, %.20q", c[0], s, args, c[1], c[2])
		}
	}
}
