package scan_test

import (
	"encoding/hex"
	"regexp"
	"slices"
	"strings"
	"testing"

	"tinder/api"
	"tinder/scan"
)

// The pieces of a text as patterns, so that short texts can be cut in another way than the program's.
var (
	blanks     = regexp.MustCompile(`^[\x00-\x20]*`)
	anyWord    = regexp.MustCompile(`^[^\x00-\x20]+`)
	linePart   = regexp.MustCompile(`^\\(?:$|\n|[\x00-\x09\x0b-\x20][^\n]*(?:\n|$))`)
	remarkPart = regexp.MustCompile(`^\([\x00-\x20][^)]*\)`)
	saidPart   = regexp.MustCompile(`^\.\([\x00-\x20]([^)]*)\)`)
	quotedPart = regexp.MustCompile(`^\.?"[\x00-\x20]((?:[^"]|"\((?:[\x00-\x20]|[[:xdigit:]][\x00-\x20]*[[:xdigit:]])*\))*)"(?:[\x00-\x20]|$)`)
	digitsPart = regexp.MustCompile(`"\([^)]*\)`)
)

// byPatterns: what Cut answers of a short text.
func byPatterns(s string) ([]api.Token, api.Errno) {
	var l []api.Token
	for at := len(blanks.FindString(s)); at < len(s); at += len(blanks.FindString(s[at:])) {
		rest := s[at:]
		w := anyWord.FindString(rest)
		part := map[string]*regexp.Regexp{`\`: linePart, "(": remarkPart, ".(": saidPart, `"`: quotedPart, `."`: quotedPart}[w]
		if part == nil {
			l = append(l, word(strings.ToLower(w), at))
			at += len(w)
			continue
		}
		m := part.FindStringSubmatch(rest)
		switch {
		case m == nil:
			return nil, api.ErrText
		case w == ".(":
			l = append(l, printed(m[1], at))
		case w == `"`:
			l = append(l, text(told(m[1]), at))
		case w == `."`:
			l = append(l, printed(told(m[1]), at))
		}
		at += len(m[0])
	}
	return l, api.OK
}

// told: a quoted text with its digits made bytes.
func told(s string) string {
	return digitsPart.ReplaceAllStringFunc(s, func(digits string) string {
		b, err := hex.DecodeString(strings.Join(strings.Fields(digits[2:len(digits)-1]), ""))
		if err != nil {
			panic(err)
		}
		return string(b)
	})
}

// shortTexts: each text of at most so many of the bytes that matter, behind each beginning.
func shortTexts(most int, do func(s string)) {
	const of = "\"(). \n\\4Ag"
	var add func(s string, left int)
	add = func(s string, left int) {
		do(s)
		if left == 0 {
			return
		}
		for i := range len(of) {
			add(s+of[i:i+1], left-1)
		}
	}
	for _, start := range []string{"", `" `, `" "(`, `." a"(4`, `.( `, `( `, `\ `, "g \" g"} {
		add(start, most)
	}
}

// P6.1: short texts of all kinds are cut as patterns cut them.
func TestCutIsByPatterns(t *testing.T) {
	shortTexts(4, func(s string) {
		l, e := scan.Cut(s)
		want, wantE := byPatterns(s)
		if e != wantE || !slices.Equal(l, want) {
			t.Errorf("%q: %v, %v; want %v, %v", s, l, e, want, wantE)
		}
	})
}

// bare: the tokens without their places.
func bare(l []api.Token) []api.Token {
	l = slices.Clone(l)
	for i := range l {
		l[i].At = 0
	}
	return l
}

// holdBack: the tokens, shown and cut, have the same Kinds and Texts, and the places where they were shown.
func holdBack(t *testing.T, l []api.Token) {
	t.Helper()
	s, e := scan.Show(l)
	got, e2 := scan.Cut(s)
	if e != api.OK || e2 != api.OK || !slices.Equal(bare(got), bare(l)) {
		t.Errorf("%v: shown %q, %v; cut %v, %v", l, s, e, got, e2)
		return
	}
	for i, token := range got {
		ahead, _ := scan.Show(l[:i])
		at := len(ahead)
		if i > 0 {
			at++
		}
		if token.At != at {
			t.Errorf("%q: token %d at %d; want %d", s, i, token.At, at)
		}
	}
}

// P6.2: what any short text is cut to comes back when it is shown.
func TestCutIsShownAndCut(t *testing.T) {
	shortTexts(3, func(s string) {
		if l, e := scan.Cut(s); e == api.OK {
			holdBack(t, l)
		}
	})
}

// P6.2: texts of each two bytes come back, of both kinds.
func TestTextsThereAndBack(t *testing.T) {
	for a := range 256 {
		var l []api.Token
		for b := range 256 {
			s := string([]byte{byte(a), byte(b)})
			l = append(l, text(s, 0), printed(s+`"(`, 0))
		}
		for part := range slices.Chunk(l, 64) {
			holdBack(t, part)
		}
	}
}

// P6.2: words of each byte that they may have come back.
func TestWordsThereAndBack(t *testing.T) {
	for a := 33; a < 256; a++ {
		for b := 33; b < 256; b++ {
			s := string([]byte{byte(a), byte(b)})
			if strings.ContainsAny(s, "ABCDEFGHIJKLMNOPQRSTUVWXYZ") || s == ".(" || s == `."` {
				continue
			}
			holdBack(t, []api.Token{word(s, 0), text("", 0), word("x"+s, 0)})
		}
	}
}

// P6.2: each order of the kinds comes back, and texts as long as may be.
func TestListsThereAndBack(t *testing.T) {
	few := []api.Token{word("a", 0), word(`"a"`, 0), word("(41)", 0), word(")", 0), text("", 0), text(`b" (`, 0), printed("\n", 0), printed(")", 0)}
	holdBack(t, nil)
	for _, x := range few {
		for _, y := range few {
			for _, z := range few {
				holdBack(t, []api.Token{x, y, z})
			}
		}
	}
	holdBack(t, []api.Token{text(ofBytes(255), 0), printed(strings.Repeat("\x00", 255), 0), word(ofBytes(300), 0)})
	holdBack(t, []api.Token{text(strings.Repeat(`"`, 255), 0), printed(strings.Repeat("()", 127), 0)})
	holdBack(t, []api.Token{word(ofBytes(api.MaxText), 0)})
}

// P6.2: what is shown too long is not cut.
func TestShownTooLong(t *testing.T) {
	l := slices.Repeat([]api.Token{word("abc", 0)}, 1024)
	holdBack(t, l)
	l[0].Text = "abcd"
	holdBack(t, l)
	l[1].Text = "abcd"
	s, e := scan.Show(l)
	got, e2 := scan.Cut(s)
	if len(s) != api.MaxText+1 || e != api.OK || e2 != api.ErrLong || len(got) != 0 {
		t.Errorf("%d bytes, %v; cut %d tokens, %v", len(s), e, len(got), e2)
	}
}

// P6.1, P1: what is handed in to Show is left as it was, its spare room too, whether it is taken or refused.
func TestShowLeavesTokens(t *testing.T) {
	mark := api.Token{Kind: 9, Text: "mark", At: 9}
	for _, last := range []api.Token{text("b\"", 5), word("A", 6), {}} {
		all := []api.Token{word("a", 3), last, mark, mark}
		was := slices.Clone(all)
		scan.Show(all[:2])
		if !slices.Equal(all, was) {
			t.Errorf("the tokens are now %v", all)
		}
	}
}

// P1: two answers share nothing, and a call answers the same each time.
func TestAnswersAreNew(t *testing.T) {
	const s = `A " b"(41 4 2)c" .( hi) ." x" \ d`
	one, _ := scan.Cut(s)
	two, _ := scan.Cut(s)
	kept := slices.Clone(two)
	clear(one[:cap(one)])
	if !slices.Equal(two, kept) {
		t.Errorf("two answers share: %v", two)
	}
	if three, e := scan.Cut(s); e != api.OK || !slices.Equal(three, kept) {
		t.Errorf("cut once more: %v, %v", three, e)
	}
}
