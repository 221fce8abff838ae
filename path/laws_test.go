package path_test

import (
	"regexp"
	"slices"
	"strconv"
	"strings"
	"testing"

	"tinder/api"
	"tinder/path"
)

// A path and a step as patterns, so that short texts can be parsed in another way than the program's.
var (
	anyPath = regexp.MustCompile("(?s)^(?:/|(?:/" + oneStep + ")+)$")
	anyStep = regexp.MustCompile("(?s)/" + oneStep)
)

const oneStep = `([!-.0-9;-?^-~]{1,31})(?:@([[:xdigit:]]{1,8}(?:,[[:xdigit:]]{1,8}){0,3}))?(?::([^/]*))?`

// byPatterns: what Parse answers of a short text.
func byPatterns(s string) ([]api.Step, api.Errno) {
	if !anyPath.MatchString(s) {
		return nil, api.ErrText
	}
	var l []api.Step
	for _, m := range anyStep.FindAllStringSubmatch(s, -1) {
		found := api.Step{Name: m[1], Args: m[3]}
		for _, digits := range strings.FieldsFunc(m[2], func(r rune) bool { return r == ',' }) {
			n, err := strconv.ParseUint(digits, 16, 32)
			if err != nil {
				panic(err)
			}
			found.Unit = append(found.Unit, uint32(n))
		}
		l = append(l, found)
	}
	return l, api.OK
}

// shortTexts: each text of at most so many of the bytes that matter, behind each beginning.
func shortTexts(most int, do func(s string)) {
	const of = "/@:,a0FG\x00"
	var add func(s string, left int)
	add = func(s string, left int) {
		do(s)
		if left == 0 {
			return
		}
		for i := range len(of) {
			add(s+of[i:i+1], left-1)
		}
	}
	for _, start := range []string{"", "/", "/b@1", "/b@1,2,3", "/b:x", "/b@1:y/c"} {
		add(start, most)
	}
}

// P7.1: short texts of all kinds are parsed as patterns parse them.
func TestParseIsByPatterns(t *testing.T) {
	shortTexts(5, func(s string) {
		l, e := path.Parse(s)
		want, wantE := byPatterns(s)
		if e != wantE || !slices.EqualFunc(l, want, alike) {
			t.Fatalf("%q: %v, %v; want %v, %v", s, l, e, want, wantE)
		}
	})
}

// P7.1: the tail of short texts is as a pattern says.
func TestTailIsByPattern(t *testing.T) {
	parted := regexp.MustCompile(`(?s)^((?:.*/)?[^/:]*):([^/]*)$`)
	shortTexts(4, func(s string) {
		want := [2]string{s, ""}
		if m := parted.FindStringSubmatch(s); m != nil {
			want = [2]string{m[1], m[2]}
		}
		if ahead, args := path.Tail(s); ahead != want[0] || args != want[1] {
			t.Fatalf("%q: %q, %q; want %q", s, ahead, args, want)
		}
	})
}

// P7.1: an alias's path and the rest are put together as patterns say.
func TestExpandIsByPatterns(t *testing.T) {
	ofArgs := regexp.MustCompile(`(?s):[^/]*$`)
	shortTexts(3, func(p string) {
		l := []api.Alias{{Name: "x", Path: "/no"}, {Name: "d", Path: p}, {Name: "d", Path: "/no"}}
		for _, rest := range []string{"", "/", "/y", "/y:z", ":", ":z", ":z/y", "::", ":/:"} {
			ahead := p
			if strings.HasPrefix(rest, ":") {
				ahead = ofArgs.ReplaceAllString(p, "")
			}
			if s, e := path.Expand("d"+rest, l); s != ahead+rest || e != api.OK {
				t.Fatalf("d for %q, %q: %q, %v; want %q", p, "d"+rest, s, e, ahead+rest)
			}
		}
	})
}

// holdBack: the steps, shown and parsed, are the same.
func holdBack(t *testing.T, l []api.Step) {
	t.Helper()
	s, e := path.Show(l)
	got, e2 := path.Parse(s)
	if e != api.OK || e2 != api.OK || !slices.EqualFunc(got, l, alike) {
		t.Fatalf("%v: shown %q, %v; parsed %v, %v", l, s, e, got, e2)
	}
}

// P7.2: each list of a few steps comes back.
func TestStepsThereAndBack(t *testing.T) {
	few := []api.Step{
		step("a", ""), step("a", "x"), step("a", "", 0), step("a", "x", 0), step("b", ":"), step("1,2", "", 1, 2),
		step("!~", "@", 1<<32-1, 31), step("a", "@1:@2", 1, 2, 3, 4), step(strings.Repeat("n", api.MaxName), "\x00 A\xff\n"),
		step("a", "", 0, 0, 0, 0), step("^", `\[]`),
	}
	holdBack(t, nil)
	for _, x := range few {
		holdBack(t, []api.Step{x})
		for _, y := range few {
			for _, z := range few {
				holdBack(t, []api.Step{x, y, z})
			}
		}
	}
}

// P7.2: arguments of each two bytes, names of each byte and numbers of each length come back.
func TestBytesThereAndBack(t *testing.T) {
	for a := range 256 {
		for b := range 256 {
			args := string([]byte{byte(a), byte(b)})
			if !strings.Contains(args, "/") {
				holdBack(t, []api.Step{step("a", args), step("b", args+"c", 9)})
			}
		}
		name := string([]byte{byte(a)})
		if a > 32 && a < 127 && !strings.Contains(`/\:[]@ABCDEFGHIJKLMNOPQRSTUVWXYZ`, name) {
			holdBack(t, []api.Step{step(name, "")})
			holdBack(t, []api.Step{step("x"+name, "y", 1)})
		}
	}
	for bit := range 32 {
		holdBack(t, []api.Step{step("a", "", 1<<bit), step("b", "", 1<<bit-1, 0, 1<<bit)})
	}
}

// P7.2: paths that are just as long as may be come back, and longer ones are neither shown nor parsed.
func TestLengthsThereAndBack(t *testing.T) {
	for n := range api.MaxPath + 4 {
		l := []api.Step{step("a", strings.Repeat("x", n), 1)}
		if n <= api.MaxPath-len("/a@1:") {
			holdBack(t, l)
			continue
		}
		if s, e := path.Show(l); s != "" || e != api.ErrLong {
			t.Errorf("arguments of %d bytes: %q, %v", n, s, e)
		}
		if got, e := path.Parse("/a@1:" + l[0].Args); len(got) != 0 || e != api.ErrLong {
			t.Errorf("arguments of %d bytes: %v, %v", n, got, e)
		}
	}
}

// P7.2: what any short text is parsed as comes back when it is shown, and is shown as before then.
func TestParsedIsShownAndParsed(t *testing.T) {
	shortTexts(4, func(s string) {
		l, e := path.Parse(s)
		if e != api.OK {
			return
		}
		holdBack(t, l)
		shown, _ := path.Show(l)
		if len(shown) > len(s) {
			t.Fatalf("%q is shown longer: %q", s, shown)
		}
		again, _ := path.Parse(shown)
		if twice, e := path.Show(again); twice != shown || e != api.OK {
			t.Fatalf("%q is shown %q, then %q, %v", s, shown, twice, e)
		}
	})
}

// P7.2: a path that could have been told shorter is so shown.
func TestShownAnew(t *testing.T) {
	for s, want := range map[string]string{"/a:": "/a", "/a@0A:": "/a@a", "/a@00000000,0F/b:/c:d": "/a@0,f/b/c:d", "/": "/"} {
		l, _ := path.Parse(s)
		if got, e := path.Show(l); got != want || e != api.OK {
			t.Errorf("%q: %q, %v; want %q", s, got, e, want)
		}
	}
}

// P7.1, P1: Show leaves the steps, their numbers and the spare room of both as they were, whether it takes them or not.
func TestShowLeavesSteps(t *testing.T) {
	for _, bad := range []api.Step{step("b", "y", 3), step("B", ""), step("b", strings.Repeat("y", 300))} {
		unit := []uint32{1, 2, 77, 78}
		all := []api.Step{{Name: "a", Unit: unit[:2], Args: "x"}, bad, step("mark", "mark", 9)}
		was := slices.Clone(all)
		path.Show(all[:2])
		if !slices.EqualFunc(all, was, alike) || !slices.Equal(unit, []uint32{1, 2, 77, 78}) {
			t.Errorf("the steps are now %v, the numbers %v", all, unit)
		}
	}
}

// P7.1, P1: Expand leaves the aliases and their spare room as they were.
func TestExpandLeavesAliases(t *testing.T) {
	for _, s := range []string{"disk", "disk:x/y", "none", "/z", "nothing", "disk:" + strings.Repeat("x", 300)} {
		all := some()
		path.Expand(s, all[:9])
		if !slices.Equal(all, some()) {
			t.Errorf("%.9q: the aliases are now %v", s, all)
		}
	}
	all := []api.Alias{{Name: "a", Path: "/a"}, {Name: "b", Path: "/b"}}
	if s, e := path.Expand("b", all[:1]); s != "" || e != api.ErrNone {
		t.Errorf("an alias out of the spare room: %q, %v", s, e)
	}
}

// P1: two answers share nothing, nor do two steps of one, and a call answers the same each time.
func TestAnswersAreNew(t *testing.T) {
	const s = "/a@1,2:x/b@3,4/c"
	want := []api.Step{step("a", "x", 1, 2), step("b", "", 3, 4), step("c", "")}
	one, _ := path.Parse(s)
	two, _ := path.Parse(s)
	first := one[0].Unit[:cap(one[0].Unit)]
	for i := range first {
		first[i] = 99
	}
	if !slices.Equal(one[1].Unit, want[1].Unit) {
		t.Errorf("two steps share numbers: %v", one)
	}
	clear(one[1].Unit)
	clear(one[:cap(one)])
	if !slices.EqualFunc(two, want, alike) {
		t.Errorf("two answers share: %v", two)
	}
	holdParses(t, []parses{{s, want}})
}
