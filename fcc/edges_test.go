package fcc_test

import (
	"fmt"
	"strings"
	"testing"

	"tinder/api"
	"tinder/fcc"
)

// definers: the words that want a name which is to be defined, as they stand ahead of it, with the tokens of it.
func definers() map[string]string {
	return map[string]string{":": "b6%q=800 b7", "constant": "b6%q=800 ba", "value": "b6%q=800 b8", "variable": "b6%q=800 b9", "defer": "b6%q=800 bc", "buffer:": "b6%q=800 bd", "instance value": "c0 b6%q=800 b8"}
}

// builders: the words of layer 12's table.
func builders() []string {
	return strings.Fields("if else then begin again until while repeat do ?do loop +loop leave case of endof endcase")
}

// P15.1: names of 31 bytes and of 32.
func TestNameLengths(t *testing.T) {
	for _, n := range []int{1, 2, 30, 31, 32, 33, 300, 4000} {
		name := strings.Repeat("n", n)
		for word, want := range definers() {
			text := word + " " + name
			end := ""
			if word == ":" {
				text, end = text+" ;", " c2"
			}
			if n > api.MaxName {
				errs(t, text, api.ErrText)
				errs(t, text+" "+name[:31], api.ErrText)
				continue
			}
			gives(t, text, fmt.Sprintf(want, name)+end)
			gives(t, text+" "+name, fmt.Sprintf(want, name)+end+" 800")
		}
		// A name that is to be found need not be one that can be defined.
		errs(t, name, api.ErrWord)
		errs(t, "' "+name, api.ErrWord)
		errs(t, "to "+name, api.ErrWord)
		errs(t, ": x ['] "+name+" ;", api.ErrWord)
		errs(t, ": x to "+name+" ;", api.ErrWord)
	}
}

// P15.1: each byte in a name.
func TestNameBytes(t *testing.T) {
	for c := 33; c < 256; c++ {
		name := "a" + string([]byte{byte(c)}) + "b"
		for word, want := range definers() {
			text := word + " " + name
			end := ""
			if word == ":" {
				text, end = text+" ;", " c2"
			}
			if c > 126 {
				errs(t, text, api.ErrText)
				continue
			}
			gives(t, text+" "+name, fmt.Sprintf(want, strings.ToLower(name))+end+" 800")
		}
		errs(t, "' "+name, api.ErrWord)
		errs(t, "to "+name, api.ErrWord)
		errs(t, name, api.ErrWord)
	}
}

// P15.1: a name that is missing, or is a text, behind each word that wants one.
func TestNoName(t *testing.T) {
	for word := range definers() {
		for _, behind := range []string{"", " ", " \n", ` " x"`, ` ." x"`, " .( x)", " ( x )", " \\ x", ` " x" x`, " .( ) x"} {
			errs(t, word+behind, api.ErrText)
			errs(t, "5 "+word+behind, api.ErrText)
			errs(t, ": y ; "+word+behind, api.ErrText)
		}
	}
	for _, behind := range []string{"", " ", ` " dup"`, ` ." dup"`, " .( dup)", " ( dup )", " \\ dup", ` " dup" dup`} {
		for _, ahead := range []string{"'", "to", ": x [']", ": x to", ": x if [']", "instance"} {
			errs(t, ahead+behind, api.ErrText)
		}
	}
	for _, behind := range []string{"constant x", "variable x", "defer x", "buffer: x", ": x ;", "instance value x", "x value", "values x", "dup", `" value" x`, `." value" x`, ".( value) x", "to x", "5"} {
		errs(t, "instance "+behind, api.ErrText)
	}
	// The name is taken whatever it is.
	errs(t, ": x ['] ;", api.ErrWord)
	errs(t, ": x to ;", api.ErrWord)
	errs(t, ": : ", api.ErrControl)
	gives(t, "value value value x", `b6"value"=800 b8 b6"x"=801 b8`)
	errs(t, "value value value", api.ErrText)
}

// P15.1: words that are only for definitions, outside of them, and the others inside.
func TestOtherState(t *testing.T) {
	for _, word := range append(builders(), ";", "exit", "[']") {
		errs(t, word, api.ErrControl)
		errs(t, strings.ToUpper(word), api.ErrControl)
		errs(t, "5 "+word+" dup", api.ErrControl)
		errs(t, ": x ; "+word, api.ErrControl)
		errs(t, ": x begin if do case of ; "+word, api.ErrControl)
		errs(t, "defer "+word+" "+word, api.ErrControl)
	}
	for _, word := range []string{":", "constant", "value", "variable", "defer", "buffer:", "instance", "'"} {
		for _, behind := range []string{"", " y", " dup ;", " y ; ;", ` " y"`, " value y"} {
			errs(t, ": x "+word+behind, api.ErrControl)
			errs(t, ": x if "+strings.ToUpper(word)+behind, api.ErrControl)
			errs(t, "defer "+word+" : x "+word+behind, api.ErrControl)
		}
	}
}

// P15.1: what ends something that isn't open, whatever of another kind is.
func TestNothingOpen(t *testing.T) {
	others := map[string][]string{
		"then else":        {"", "begin", "do", "?do", "case", "case of", "case of endof", "if then", "while then", "begin if repeat", "if else then", "begin do case of"},
		"again until":      {"", "if", "while", "do", "?do", "case", "case of", "begin again", "begin until", "begin while repeat if", "if else do case of"},
		"repeat":           {"", "if", "while", "begin", "begin do", "begin case of", "begin if then", "begin if again", "begin if repeat", "begin begin if repeat", "do", "case of", "if else"},
		"loop +loop leave": {"", "if", "while", "begin", "case", "case of", "do loop", "?do +loop", "do leave loop", "do do loop loop", "if begin case of"},
		"of":               {"", "if", "begin", "do", "?do", "case of", "case endcase", "case of endof endcase", "case of case endcase", "case of endof of", "if begin do"},
		"endof":            {"", "if", "begin", "do", "case", "case of endof", "case of case", "case endcase", "case of endof case endcase", "if begin do"},
		"endcase":          {"", "if", "begin", "do", "case of", "case endcase", "case of case endcase", "case of endof endcase", "case of endof of", "if begin do"},
	}
	for words, bodies := range others {
		for _, word := range strings.Fields(words) {
			for _, body := range bodies {
				errs(t, ": x "+body+" "+word, api.ErrControl)
				errs(t, ": x "+body+" "+word+" zz ;", api.ErrControl)
				// It is refused there, and not at the end.
				if _, e := fcc.Tokens(": x " + body + " zz " + word + " ;"); e != api.ErrWord {
					t.Errorf("%s ahead of %s: %v", body, word, e)
				}
			}
		}
	}
	// while meets nothing: it is as if.
	gives(t, ": x while then ;", `b6"x"=800 b7 14+3 b2 c2`)
	gives(t, ": x while else then ;", `b6"x"=800 b7 14+6 13+4 b2 b2 c2`)
}

// P15.1: a ; while something is open, and a text that ends then.
func TestStillOpen(t *testing.T) {
	for _, body := range []string{"if", "while", "if else", "begin", "begin while", "begin if again", "do", "?do", "do leave", "case", "case of", "case of endof", "if if then", "begin begin until", "do do loop", "case case endcase", "if begin do case of"} {
		errs(t, ": x "+body+" ;", api.ErrControl)
		errs(t, ": x "+body+" ; 5", api.ErrControl)
		errs(t, ": x "+body, api.ErrControl)
	}
	for _, text := range []string{": x", ": x ", ": x 5", ": x exit", ": x \\ ;", ": x ( ; )", ": x .( ;)", `: x " ;"`, ": x ; : y", "5 : x dup"} {
		errs(t, text, api.ErrControl)
	}
	// One behind the other, nothing stays open from the first to the second.
	gives(t, ": x if then ; : y begin again ;", `b6"x"=800 b7 14+3 b2 c2 b6"y"=801 b7 b1 13-1 c2`)
}

// P15.1: words that there aren't.
func TestUnknown(t *testing.T) {
	for _, word := range []string{"zz", "dupp", "du", "dup;", ";;", "::", "\x7f", "\xff", "''", "[']'", "if-", "buffer", "b(x)", "h#", "-if"} {
		errs(t, word, api.ErrWord)
		errs(t, ": x "+word+" ;", api.ErrWord)
		errs(t, "' "+word, api.ErrWord)
		errs(t, "to "+word, api.ErrWord)
		errs(t, ": x ['] "+word+" ;", api.ErrWord)
		errs(t, ": x to "+word+" ;", api.ErrWord)
	}
	// A number is no name, nor is a code.
	for _, name := range []string{"5", "h#1f", "-7", "h#800", "800"} {
		errs(t, "' "+name, api.ErrWord)
		errs(t, "to "+name, api.ErrWord)
		errs(t, ": x ['] "+name+" ;", api.ErrWord)
	}
}

// P15.1: what layer 6 refuses comes ahead of all else, wherever it stands.
func TestNotCut(t *testing.T) {
	for wrong, want := range map[string]api.Errno{
		"( x": api.ErrText, ".( x": api.ErrText, ".(": api.ErrText, `"`: api.ErrText, `."`: api.ErrText, `" x`: api.ErrText, `" a"b`: api.ErrText, `" a"(4)"`: api.ErrText, `" a"(xx)"`: api.ErrText,
		`" ` + strings.Repeat("a", 256) + `"`: api.ErrLong, `." ` + strings.Repeat("a", 256) + `"`: api.ErrLong, ".( " + strings.Repeat("a", 256) + ")": api.ErrLong,
		strings.Repeat(" ", api.MaxText+1): api.ErrLong, strings.Repeat("zz ", api.MaxText): api.ErrLong,
	} {
		for _, ahead := range []string{"", "5 ", "zz ", "then ", ": x zz ", ": x ", ": ", "' ", ": x then "} {
			errs(t, ahead+wrong, want)
		}
	}
}

// P15.1: of several errors the first one.
func TestFirstError(t *testing.T) {
	first := map[string]api.Errno{
		"zz": api.ErrWord, "' zz": api.ErrWord, "to zz": api.ErrWord, "then": api.ErrControl, ";": api.ErrControl, "instance dup": api.ErrText, `: " a"`: api.ErrText, `' " a"`: api.ErrText, ": x then ;": api.ErrControl,
		": x zz ;": api.ErrWord, ": x ' dup ;": api.ErrControl, ": x x ;": api.ErrWord, ": x if ;": api.ErrControl, `: x to " a" ;`: api.ErrText, "value \x80": api.ErrText, ": x : y": api.ErrControl,
	}
	for one, want := range first {
		for two := range first {
			errs(t, one+" "+two, want)
			errs(t, "5 dup "+one+" "+two, want)
		}
		errs(t, one+" :", want)
		errs(t, one+" : x", want)
		errs(t, one+" "+strings.Repeat("4 ", 1900), want)
		errs(t, strings.Repeat("4 ", 1900)+one, want)
	}
	// A name that is none ahead of what the end of the text would say.
	errs(t, ": x [']", api.ErrText)
	errs(t, ": x to", api.ErrText)
	// else and repeat are refused though a part of them could be done.
	errs(t, ": x begin repeat zz", api.ErrControl)
}

// P15.1: programs of just MaxFCode bytes, and of one more; tokens may be more.
func TestLongestProgram(t *testing.T) {
	const headSize, endSize = 8, 1
	for _, tail := range []struct {
		text string
		size int
	}{{"", 0}, {" dup", 1}, {" property", 2}, {" dup dup dup", 3}, {" dup dup property", 4}, {` " "`, 2}, {` ." ab"`, 5}, {" : x if then ;", 11}, {" ' dup", 2}} {
		n := (api.MaxFCode - headSize - endSize - tail.size) / 5
		missing := api.MaxFCode - headSize - endSize - tail.size - 5*n
		text := strings.Repeat("4 ", n) + strings.Repeat("i ", missing) + tail.text
		b, e := fcc.Compile(text)
		if e != api.OK || len(b) != api.MaxFCode {
			t.Errorf("%q: %d bytes, %v", tail.text, len(b), e)
		}
		compiled(t, text)
		for _, more := range []string{"i ", "property ", "4 ", "4 4 4 ", "4 4 4 4 4 4 4 4 "} {
			if b, e := fcc.Compile(more + text); e != api.ErrLong || len(b) != 0 {
				t.Errorf("%q and %q: %d bytes, %v", more, tail.text, len(b), e)
			}
			if l := compiled(t, more+text); len(l) != len(compiled(t, text))+len(strings.Fields(more)) {
				t.Errorf("%q and %q: %d tokens", more, tail.text, len(l))
			}
			if b, e := fcc.Compile(more + text + " zz"); e != api.ErrWord || len(b) != 0 {
				t.Errorf("%q, %q and what is unknown: %d bytes, %v", more, tail.text, len(b), e)
			}
		}
	}
}

// P15.1: texts of MaxText bytes and of one more.
func TestLongestText(t *testing.T) {
	for _, end := range []string{"", "dup", ": x ;", `" a"`, "( a )", "\\ a"} {
		text := strings.Repeat(" ", api.MaxText-len(end)) + end
		want, _ := fcc.Tokens(end)
		if got := told(compiled(t, text)); got != told(want) {
			t.Errorf("%q at the end: %s", end, got)
		}
		errs(t, " "+text, api.ErrLong)
		errs(t, text+" ", api.ErrLong)
	}
	errs(t, strings.Repeat(" ", api.MaxText-2)+"zz", api.ErrWord)
	errs(t, strings.Repeat(" ", api.MaxText-1)+"zz", api.ErrLong)
	errs(t, strings.Repeat("4 ", 1<<20), api.ErrLong)
}

// P15.1: more names than a dictionary has room for, and longer definitions than layer 10 takes, are compiled: it is for who evaluates them to refuse.
func TestNoOtherLimits(t *testing.T) {
	n := (api.MaxText + 1) / len(": a ; ")
	l := compiled(t, strings.TrimSpace(strings.Repeat(": a ; ", n)))
	if n <= api.MaxWords-api.Prims || len(l) != 3*n+1 || l[len(l)-4].N != uint32(0x800+n-1) {
		t.Errorf("%d names: %d tokens", n, len(l))
	}
	if l := compiled(t, ": x "+strings.Repeat("i ", api.MaxCode+1)+";"); len(l) != api.MaxCode+5 {
		t.Errorf("a long definition: %d tokens", len(l))
	}
	// Nor is there a limit of how many places are open at once, but the text's own.
	for _, pair := range [][2]string{{"if", "then"}, {"begin", "again"}, {"do", "loop"}, {"case", "endcase"}} {
		compiled(t, ": x "+strings.Repeat(pair[0]+" ", 300)+strings.Repeat(pair[1]+" ", 300)+";")
		errs(t, ": x "+strings.Repeat(pair[0]+" ", 300)+strings.Repeat(pair[1]+" ", 299)+";", api.ErrControl)
		errs(t, ": x "+strings.Repeat(pair[0]+" ", 300)+strings.Repeat(pair[1]+" ", 301)+";", api.ErrControl)
	}
}
