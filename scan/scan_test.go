package scan_test

import (
	"slices"
	"strings"
	"testing"

	"tinder/api"
	"tinder/scan"
)

// word, text, printed: tokens of the three kinds.
func word(s string, at int) api.Token    { return api.Token{Kind: api.TWord, Text: s, At: at} }
func text(s string, at int) api.Token    { return api.Token{Kind: api.TText, Text: s, At: at} }
func printed(s string, at int) api.Token { return api.Token{Kind: api.TPrint, Text: s, At: at} }

// cuts: a text, and the tokens that it is cut to.
type cuts struct {
	s    string
	want []api.Token
}

func holdCuts(t *testing.T, table []cuts) {
	t.Helper()
	for _, c := range table {
		if l, e := scan.Cut(c.s); e != api.OK || !slices.Equal(l, c.want) {
			t.Errorf("%q: %v, %v; want %v", c.s, l, e, c.want)
		}
	}
}

// refuses: each text is refused by the error, with no tokens beside it.
func refuses(t *testing.T, want api.Errno, texts ...string) {
	t.Helper()
	for _, s := range texts {
		if l, e := scan.Cut(s); e != want || len(l) != 0 {
			t.Errorf("%q: %v, %v; want %v", s, l, e, want)
		}
	}
}

// P6.1: the examples of the chapter.
func TestExamples(t *testing.T) {
	holdCuts(t, []cuts{
		{`A " b"(41 4 2)c" \ d`, []api.Token{word("a", 0), text("bABc", 2)}},
		{".( hi) x", []api.Token{printed("hi", 0), word("x", 7)}},
	})
	refuses(t, api.ErrText, "( x", `" a"b`)
}

// P6.1: words go from blank to blank, each with the place of its first byte.
func TestWords(t *testing.T) {
	holdCuts(t, []cuts{
		{"", nil},
		{" ", nil},
		{"\x00 \t\r\n\x1f", nil},
		{"a", []api.Token{word("a", 0)}},
		{" a ", []api.Token{word("a", 1)}},
		{"ab  cd\n\nef", []api.Token{word("ab", 0), word("cd", 4), word("ef", 8)}},
		{": sq dup * ;", []api.Token{word(":", 0), word("sq", 2), word("dup", 5), word("*", 9), word(";", 11)}},
		{"AZ @[ `{ aZ", []api.Token{word("az", 0), word("@[", 3), word("`{", 6), word("az", 9)}},
		{"\xc3\x84 \xc0X\xff", []api.Token{word("\xc3\x84", 0), word("\xc0x\xff", 3)}},
		{"\u212a \u0130Q", []api.Token{word("\u212a", 0), word("\u0130q", 4)}},
	})
}

// P6.1: the bytes 0 to 32 part words, all others are of them, great letters alone made small.
func TestEachByte(t *testing.T) {
	for c := range 256 {
		s := "x" + string([]byte{byte(c)}) + "y"
		want := []api.Token{word(s, 0)}
		switch {
		case c <= 32:
			want = []api.Token{word("x", 0), word("y", 2)}
		case 'A' <= c && c <= 'Z':
			want = []api.Token{word("x"+string(rune(c+32))+"y", 0)}
		}
		if l, e := scan.Cut(s); e != api.OK || !slices.Equal(l, want) {
			t.Errorf("%q: %v, %v", s, l, e)
		}
	}
}

// P6.1: what only begins or ends as one of the five words is any other word.
func TestNearWords(t *testing.T) {
	for _, s := range []string{`\\`, `\a`, `a\`, "(a", "(a)", "()", ")", "((", ".(a", ".(a)", ".()", "..(", "a(", `"a`, `"a"`, `""`, `"(41)`, `a"`, `."a`, `.""`, `.."`, `s"`, ".", `."(41)"`, ".)"} {
		holdCuts(t, []cuts{
			{s, []api.Token{word(s, 0)}},
			{"b " + s + " c", []api.Token{word("b", 0), word(s, 2), word("c", 3+len(s))}},
		})
	}
}

// P6.1: a \ passes over its line, or all if there is no more of them.
func TestLines(t *testing.T) {
	holdCuts(t, []cuts{
		{`\`, nil},
		{`\ `, nil},
		{`\ a b`, nil},
		{`\ ( " .( ."`, nil},
		{"a \\ b\nc", []api.Token{word("a", 0), word("c", 6)}},
		{"\\\na", []api.Token{word("a", 2)}},
		{"\\ \na", []api.Token{word("a", 3)}},
		{"\\ a\rb\x00c\nd", []api.Token{word("d", 8)}},
		{"\\\ra\nb", []api.Token{word("b", 4)}},
		{"\\ a\n\\ b\nc", []api.Token{word("c", 8)}},
		{"\\ a\nb\nc", []api.Token{word("b", 4), word("c", 6)}},
		{"\\ a\\\nb", []api.Token{word("b", 5)}},
		{"\\ a\n", nil},
	})
}

// P6.1: a ( passes over all up to its ), which may stand anywhere.
func TestRemarks(t *testing.T) {
	holdCuts(t, []cuts{
		{"( )", nil},
		{"( a b) c", []api.Token{word("c", 7)}},
		{"( a )b", []api.Token{word("b", 5)}},
		{"( ( ) a", []api.Token{word("a", 6)}},
		{"( a\n) b", []api.Token{word("b", 6)}},
		{"(\n) b", []api.Token{word("b", 4)}},
		{`( \ " .( ."` + "\n) b", []api.Token{word("b", 14)}},
		{"( a) ) b", []api.Token{word(")", 5), word("b", 7)}},
		{"a( b )", []api.Token{word("a(", 0), word("b", 3), word(")", 5)}},
		{"x) (y", []api.Token{word("x)", 0), word("(y", 3)}},
	})
	refuses(t, api.ErrText, "(", "( ", "( a", "a ( b", "( a ( b", "( a) ( b", ") (")
}

// P6.1: a .( prints the bytes as they are, from behind one blank up to its ).
func TestPrinted(t *testing.T) {
	holdCuts(t, []cuts{
		{".( )", []api.Token{printed("", 0)}},
		{".(  )", []api.Token{printed(" ", 0)}},
		{".(  a)", []api.Token{printed(" a", 0)}},
		{".(\na)", []api.Token{printed("a", 0)}},
		{".(\x00\x00a)", []api.Token{printed("\x00a", 0)}},
		{".( A b\n\xff )", []api.Token{printed("A b\n\xff ", 0)}},
		{".( \"(41) a", []api.Token{printed("\"(41", 0), word("a", 9)}},
		{".( .( \\ a\" ) b", []api.Token{printed(".( \\ a\" ", 0), word("b", 13)}},
		{"a .( b)c", []api.Token{word("a", 0), printed("b", 2), word("c", 7)}},
		{" .( b).( c) d", []api.Token{printed("b", 1), printed("c", 6), word("d", 12)}},
		{".( a) ) b", []api.Token{printed("a", 0), word(")", 6), word("b", 8)}},
	})
	refuses(t, api.ErrText, ".(", "a .(", ".( ", ".(  ", ".( a", ".( a\n", ".( a) .(", ".( a) .( b")
}

// quotes: the two words with a quoted text behind them, and the token of each.
func quotes() map[string]func(string, int) api.Token {
	return map[string]func(string, int) api.Token{`"`: text, `."`: printed}
}

// P6.1: a quoted text begins behind one blank and goes up to its ".
func TestQuoted(t *testing.T) {
	for w, token := range quotes() {
		n := len(w)
		holdCuts(t, []cuts{
			{w + ` "`, []api.Token{token("", 0)}},
			{w + `  "`, []api.Token{token(" ", 0)}},
			{w + ` a"`, []api.Token{token("a", 0)}},
			{w + "\na\"", []api.Token{token("a", 0)}},
			{w + "\x00\x00\"", []api.Token{token("\x00", 0)}},
			{w + " A b\n\xffZ \"", []api.Token{token("A b\n\xffZ ", 0)}},
			{w + " ( \\ .( ) .\" ", []api.Token{token("( \\ .( ) .", 0)}},
			{w + " (41)\"", []api.Token{token("(41)", 0)}},
			{"ab " + w + " c\" d", []api.Token{word("ab", 0), token("c", 3), word("d", 7+n)}},
			{w + " a\" " + w + " b\"\n" + w + " \"", []api.Token{token("a", 0), token("b", 4+n), token("", 8+2*n)}},
		})
		refuses(t, api.ErrText, w, "a "+w, w+" ", w+"\n", w+"  ", w+" a", w+" a b", w+` a" `+w, w+` a" `+w+" b")
	}
}

// P6.1: behind the " that ends a text there is a blank or the end.
func TestBehindQuoted(t *testing.T) {
	for w, token := range quotes() {
		for c := range 256 {
			s := w + ` a"` + string([]byte{byte(c)})
			switch {
			case c == '(':
				holdCuts(t, []cuts{{s + `)"`, []api.Token{token("a", 0)}}})
			case c <= 32:
				holdCuts(t, []cuts{{s, []api.Token{token("a", 0)}}, {s + "b", []api.Token{token("a", 0), word("b", 4+len(w))}}})
			default:
				refuses(t, api.ErrText, s, s+" ", s+" b", s+`"`)
			}
		}
		refuses(t, api.ErrText, w+` ""`, w+` "" `, w+` "a"`, w+` a""b"`)
	}
}

// P6.1: a " with ( behind it tells bytes by their digits.
func TestDigits(t *testing.T) {
	for w, token := range quotes() {
		for s, want := range map[string]string{
			`"()`:                 "",
			`"( )`:                "",
			`"(41)`:               "A",
			`"(4142)`:             "AB",
			`"( 41 )`:             "A",
			`"(4 1)`:              "A",
			"\"(4\n1\x00\t4 2)":   "AB",
			`"(4 14 2)`:           "AB",
			`"(afAFaFAf)`:         "\xaf\xaf\xaf\xaf",
			`"(00 22 28 29 ff)`:   "\x00\"()\xff",
			`"(0123456789abcdef)`: "\x01\x23\x45\x67\x89\xab\xcd\xef",
			`"(ABCDEF)`:           "\xab\xcd\xef",
			`a"(41)b`:             "aAb",
			`a"(41)b"(42)c`:       "aAbBc",
			`"(41)"(42)`:          "AB",
			`"()"()`:              "",
			`"(41)(42)`:           "A(42)",
			`"(41))`:              "A)",
			`"(41) `:              "A ",
			`("(41)`:              "(A",
			` a "(41) b `:         " a A b ",
			"\"(22)\"(28)41)":     "\"(41)",
			`"(22)(41)`:           "\"(41)",
		} {
			holdCuts(t, []cuts{
				{w + " " + s + `"`, []api.Token{token(want, 0)}},
				{w + " " + s + `" x`, []api.Token{token(want, 0), word("x", len(w)+len(s)+3)}},
			})
		}
	}
}

// P6.1: digits that tell no bytes: another byte among them, an odd number, no ) behind them.
func TestWrongDigits(t *testing.T) {
	for w := range quotes() {
		for c := range 256 {
			isDigit := strings.IndexByte("0123456789abcdefABCDEF", byte(c)) >= 0
			if c <= 32 || c == ')' || isDigit {
				continue
			}
			one := string([]byte{byte(c)})
			refuses(t, api.ErrText, w+` "(4`+one+`)"`, w+` "(`+one+`4)"`, w+` "(41`+one+`)"`, w+` "(`+one+`)"`, w+` "(4`+one+`1)"`)
		}
		refuses(t, api.ErrText,
			w+` "(4)"`, w+` "( 4 )"`, w+` "(414)"`, w+` "(41 4)"`, w+` "(41)"(4)"`, w+` "(4)"(1)"`,
			w+` "(`, w+` "(41`, w+` "(41"`, w+` "(41 `, w+` "(41" )"`, w+` "(41)"(42"`, w+` "("`,
			w+` "(41)`, w+` "(41) a`, w+` "()`, w+` a"(41)b`,
			w+` "(4_1)"`, w+` "(+4)"`, w+` "(-4)"`, w+` "(0x)"`, w+` "(0x41)"`, w+` "(4,1)"`, w+` "(h#)"`,
			w+` "(41)"b`, w+` a"(41)""`)
	}
}

// ofBytes: a text of so many bytes.
func ofBytes(n int) string { return strings.Repeat("ab", n)[:n] }

// P6.1: a Text of 255 bytes is taken, one of 256 is too long, however its bytes are told.
func TestLongTexts(t *testing.T) {
	for _, n := range []int{0, 1, 127, 128, 254, 255} {
		s := ofBytes(n)
		holdCuts(t, []cuts{
			{".( " + s + ") x", []api.Token{printed(s, 0), word("x", n+5)}},
			{`" ` + s + `" x`, []api.Token{text(s, 0), word("x", n+4)}},
			{`." ` + s + `" x`, []api.Token{printed(s, 0), word("x", n+5)}},
			{`" "(` + strings.Repeat("41", n) + `)"`, []api.Token{text(strings.Repeat("A", n), 0)}},
			{`." ` + strings.Repeat(`"(4 1)`, n) + `"`, []api.Token{printed(strings.Repeat("A", n), 0)}},
		})
	}
	for _, n := range []int{256, 257, 511, 512, 600} {
		s := ofBytes(n)
		refuses(t, api.ErrLong, ".( "+s+")", ".( "+s+") x", `" `+s+`"`, `" `+s+`" x`, `." `+s+`"`, `." `+s+`" x`,
			`" "(`+strings.Repeat("41", n)+`)"`, `." `+strings.Repeat(`"(41)`, n)+`"`)
	}
	half := ofBytes(128)
	holdCuts(t, []cuts{
		{`" ` + half + `"(41)` + half[1:127] + `"`, []api.Token{text(half+"A"+half[1:127], 0)}},
		{`" ` + half + `"(4142)` + half[2:127] + `"`, []api.Token{text(half+"AB"+half[2:127], 0)}},
		{ofBytes(256), []api.Token{word(ofBytes(256), 0)}},
		{"( " + ofBytes(256) + ")", nil},
		{`\ ` + ofBytes(256), nil},
	})
	refuses(t, api.ErrLong, `" `+half+`"(41)`+half[1:]+`"`, `" `+half+`"(4142)`+half[2:]+`"`)
}

// P6.1: a source text of 4096 bytes is taken, one of 4097 is too long, whatever it holds.
func TestLongSources(t *testing.T) {
	full := ofBytes(4096)
	holdCuts(t, []cuts{
		{full, []api.Token{word(full, 0)}},
		{strings.Repeat(" ", 4096), nil},
		{strings.Repeat(" ", 4095) + "a", []api.Token{word("a", 4095)}},
		{"( " + full[:4093] + ")", nil},
	})
	var each []api.Token
	for i := range 2048 {
		each = append(each, word("a", 2*i))
	}
	holdCuts(t, []cuts{{strings.Repeat("A ", 2048), each}})
	refuses(t, api.ErrLong, full+"a", full+" ", strings.Repeat(" ", 4097), strings.Repeat("a ", 2049), "( "+full, `" "(4g)"`+full, full+` "`, full+full)
	refuses(t, api.ErrText, full[:4094]+" (", "( "+full[:4094])
}

// P6.1: of two errors the one that shows first is answered; a text's length is asked where it ends.
func TestWhichError(t *testing.T) {
	long := ofBytes(256)
	refuses(t, api.ErrLong,
		`" `+long+`" ( a`, `." `+long+`" " a`, ".( "+long+") ( a", ".( "+long+`) " "(4)"`, ".( "+long+`)"`,
		`" a" " `+long+`" (`, `" `+long+`"b`, `." `+long+`""`)
	refuses(t, api.ErrText,
		`" `+long, `." `+long, ".( "+long, `" `+long+`"(4)"`, `." `+long+`"(4g)"`, `" `+long+`"(41"`, `" "(4)`+long+`"`,
		`" "(4g)" .( `+long+")", `" a"b " `+long+`"`, "( "+long, `" `+long+`"(41)`, `" `+long+`"(`)
}

// P6.1: each token as the chapter shows it, with a blank between two; places count for nothing.
func TestShow(t *testing.T) {
	for _, c := range []struct {
		l    []api.Token
		want string
	}{
		{nil, ""},
		{[]api.Token{}, ""},
		{[]api.Token{word("a", 0)}, "a"},
		{[]api.Token{text("", 0)}, `" "`},
		{[]api.Token{printed("", 0)}, `." "`},
		{[]api.Token{text("a b", 0)}, `" a b"`},
		{[]api.Token{printed("a b", 0)}, `." a b"`},
		{[]api.Token{text(" A(41)\\ ", 0)}, `"  A(41)\ "`},
		{[]api.Token{word("dup", 7), text("x", -1), printed("y", 1<<40), word("*", 0)}, `dup " x" ." y" *`},
		{[]api.Token{text(`"`, 0), text(`"("`, 0)}, `" "(22)" " "(22)("(22)"`},
		{[]api.Token{printed("\x00\x0a\xaf\xff", 0)}, `." "(00)"(0a)"(af)"(ff)"`},
		{[]api.Token{word("\x7f\xff", 0), word(`\\`, 0), word("(a", 0), word(`"a`, 0), word(".(a", 0), word(`."a`, 0)}, "\x7f\xff \\\\ (a \"a .(a .\"a"},
	} {
		if s, e := scan.Show(c.l); e != api.OK || s != c.want {
			t.Errorf("%v: %q, %v; want %q", c.l, s, e, c.want)
		}
	}
}

// P6.1: of a text, the bytes from 32 to 126 are shown as they are, but " and all others by two small digits.
func TestShowEachByte(t *testing.T) {
	const digits = "0123456789abcdef"
	for c := range 256 {
		s := string([]byte{byte(c)})
		want := s
		if c < 32 || c > 126 || c == '"' {
			want = `"(` + digits[c/16:c/16+1] + digits[c%16:c%16+1] + ")"
		}
		if got, e := scan.Show([]api.Token{text(s, 0)}); e != api.OK || got != `" `+want+`"` {
			t.Errorf("of a TText %q: %q, %v", s, got, e)
		}
		if got, e := scan.Show([]api.Token{printed("x"+s+"y", 0)}); e != api.OK || got != `." x`+want+`y"` {
			t.Errorf("of a TPrint %q: %q, %v", s, got, e)
		}
	}
}

// P6.1: a word is shown if it has no blank and no great letter.
func TestShowWordBytes(t *testing.T) {
	for c := range 256 {
		s := string([]byte{byte(c)})
		ok := c > 32 && (c < 'A' || c > 'Z')
		for _, w := range []string{"x" + s, s + "x", "x" + s + "y"} {
			got, e := scan.Show([]api.Token{word(w, 0)})
			if ok && (e != api.OK || got != w) {
				t.Errorf("%q: %q, %v", w, got, e)
			}
			if !ok && (e != api.ErrArg || got != "") {
				t.Errorf("%q: %q, %v", w, got, e)
			}
		}
	}
}

// P6.1: tokens that come of no text are refused, wherever they stand, with no text beside the error.
func TestShowRefuses(t *testing.T) {
	for _, wrong := range []api.Token{
		{}, {Kind: 0, Text: "a"}, {Kind: 4, Text: "a"}, {Kind: -1, Text: "a"}, {Kind: 1 << 32, Text: "a"}, {Kind: 1<<32 + 1, Text: "a"}, {Kind: 257, Text: "a"}, {Kind: 258}, {Kind: 259},
		word("", 0), word(" ", 0), word("a b", 0), word("a\n", 0), word("\x00a", 0), word("A", 0), word("aZ", 0),
		word(`\`, 0), word("(", 0), word(".(", 0), word(`"`, 0), word(`."`, 0),
		text(ofBytes(256), 0), printed(ofBytes(256), 0), text(ofBytes(1000), 0), text(strings.Repeat("\xff", 256), 0),
	} {
		for _, l := range [][]api.Token{{wrong}, {word("a", 0), wrong}, {wrong, word("a", 0)}, {text("a", 0), wrong, wrong}} {
			if s, e := scan.Show(l); e != api.ErrArg || s != "" {
				t.Errorf("%v: %q, %v", l, s, e)
			}
		}
	}
}

// P6.1: a Text of 255 bytes is shown, and a word of any length; so is a list whose text is too long to be cut.
func TestShowLong(t *testing.T) {
	s := ofBytes(255)
	for _, c := range []struct {
		l    []api.Token
		want string
	}{
		{[]api.Token{text(s, 0)}, `" ` + s + `"`},
		{[]api.Token{printed(s, 0)}, `." ` + s + `"`},
		{[]api.Token{printed(strings.Repeat("\xff", 255), 0)}, `." ` + strings.Repeat(`"(ff)`, 255) + `"`},
		{[]api.Token{word(ofBytes(256), 0)}, ofBytes(256)},
		{[]api.Token{word(ofBytes(4097), 0)}, ofBytes(4097)},
		{slices.Repeat([]api.Token{word("ab", 0)}, 2000), strings.TrimSuffix(strings.Repeat("ab ", 2000), " ")},
	} {
		if got, e := scan.Show(c.l); e != api.OK || got != c.want {
			t.Errorf("%d bytes, %v; want %d", len(got), e, len(c.want))
		}
	}
}
