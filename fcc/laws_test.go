package fcc_test

import (
	"bytes"
	"math/rand"
	"slices"
	"strings"
	"testing"
	"unsafe"

	"tinder/api"
	"tinder/dict"
	"tinder/fcc"
	"tinder/head"
	"tinder/outer"
	"tinder/token"
)

// asModel: that both calls come to what the model comes to, and that it is right; whether the text is compiled.
func asModel(t *testing.T, text string) bool {
	t.Helper()
	want, wantE := byModel(text)
	l, e := fcc.Tokens(text)
	if e != wantE || !slices.Equal(l, want) {
		t.Fatalf("%q: %s, %v; want %s, %v", text, told(l), e, told(want), wantE)
	}
	if e != api.OK {
		if b, e := fcc.Compile(text); e != wantE || len(b) != 0 {
			t.Fatalf("%q: %x, %v; want %v", text, b, e, wantE)
		}
		return false
	}
	compiled(t, text)
	return true
}

// rows: each row of at most so many of the words.
func rows(words []string, most int, do func(l []string)) {
	var add func(l []string)
	add = func(l []string) {
		do(l)
		if len(l) < most {
			for _, word := range words {
				add(append(slices.Clip(l), word))
			}
		}
	}
	add(nil)
}

// P15.1, P15.2: all short texts of words that say how to read on.
func TestAllShortTexts(t *testing.T) {
	words := []string{":", ";", "x", "dup", "5", "'", "[']", "to", "exit", "if", "then", "value", "instance", "defer", `" a"`, ".( b)"}
	n := 0
	rows(words, 4, func(l []string) {
		if asModel(t, strings.Join(l, " ")) {
			n++
		}
	})
	if n < 2000 {
		t.Errorf("only %d are compiled", n)
	}
}

// P15.1, P15.2: all short definitions of words that build.
func TestAllShortDefinitions(t *testing.T) {
	n := 0
	rows(builders(), 3, func(l []string) {
		asModel(t, ": x "+strings.Join(l, " dup ")+" ;")
	})
	// Of each kind of thing that is open, one word for those that do the same.
	for _, words := range []string{"if else then", "begin again while repeat then", "do loop leave", "case of endof endcase", "if then begin until", "if then do +loop", "begin again case endcase"} {
		rows(strings.Fields(words), 6, func(l []string) {
			if asModel(t, ": x "+strings.Join(l, " ")+" ;") {
				n++
			}
		})
	}
	if n < 400 {
		t.Errorf("only %d are compiled", n)
	}
}

// A clerk writes random texts, most of which are compiled.
type clerk struct {
	r     *rand.Rand
	names []string
}

func newClerk(seed int64) *clerk { return &clerk{r: rand.New(rand.NewSource(seed))} }

func (c *clerk) one(l ...string) string { return l[c.r.Intn(len(l))] }

// seldom: once in so many times.
func (c *clerk) seldom(n int) bool { return c.r.Intn(n) == 0 }

// known: a name that is known.
func (c *clerk) known() string {
	if len(c.names) > 0 && c.r.Intn(2) == 0 {
		return c.names[c.r.Intn(len(c.names))]
	}
	return c.one("dup", "drop", "+", "1", "-1", "property", "catch", "type", "fm/mod", "i")
}

func (c *clerk) newName() string {
	return c.one("a", "b", "c", "dup", "type", "5", "x!", "if", ";", "a-long-name-of-31-bytes--------")
}

// plain: words that may stand anywhere.
func (c *clerk) plain() string {
	switch c.r.Intn(8) {
	case 0:
		return c.one("5", "-7", "h#ff", "b#-101", "o#17", "4294967295", "00")
	case 1:
		return c.one(`" abc"`, `" "`, `." d"`, ".( e f)", `" "(00 ff)"`, `." `+strings.Repeat("g", c.r.Intn(256))+`"`)
	case 2:
		return "to " + c.known()
	case 3:
		return c.one("( remark )", "\\ remark\n", "\t")
	case 4:
		if c.seldom(30) {
			return c.one("zz", "5f", "then", ";", "' dup", "[']", "to zz", "value v", `to " a"`, ": y", "' zz", "instance x")
		}
	}
	if s := c.known(); s != "if" && s != ";" {
		return s
	}
	return "dup"
}

// inside: a row of parts of a definition.
func (c *clerk) inside(deep int) string {
	var l []string
	for range c.r.Intn(4) {
		l = append(l, c.part(deep))
	}
	return strings.Join(l, " ")
}

func (c *clerk) part(deep int) string {
	if deep > 4 {
		return c.plain()
	}
	in := func() string { return " " + c.inside(deep+1) + " " }
	switch c.r.Intn(14) {
	case 0:
		return "if" + in() + "then"
	case 1:
		return "if" + in() + "else" + in() + "then"
	case 2:
		return "begin" + in() + c.one("again", "until")
	case 3:
		return "begin" + in() + "while" + in() + "repeat"
	case 4:
		return "begin" + in() + "while" + in() + "while" + in() + "repeat" + in() + c.one("then", "else dup then")
	case 5:
		return c.one("do", "?do") + in() + c.one("", "leave", "if leave then") + in() + c.one("loop", "+loop")
	case 6:
		s := "case" + in()
		for range c.r.Intn(4) {
			s += "of" + in() + "endof" + in()
		}
		return s + "endcase"
	case 7:
		return c.one("exit", "['] "+c.known())
	}
	return c.plain()
}

func (c *clerk) outside() string {
	switch c.r.Intn(6) {
	case 0, 1:
		name := c.newName()
		s := ": " + name + " " + c.inside(0) + " ;"
		c.names = append(c.names, name)
		return s
	case 2:
		name := c.newName()
		s := c.one("constant ", "value ", "variable ", "defer ", "buffer: ", "instance value ") + name
		c.names = append(c.names, name)
		return s
	case 3:
		return "' " + c.known()
	}
	return c.plain()
}

func (c *clerk) text() string {
	c.names = nil
	var l []string
	for range c.r.Intn(10) {
		l = append(l, c.outside())
	}
	return strings.Join(l, " ")
}

// spoilt: the text with a word less, one more, or two changed about.
func (c *clerk) spoilt(text string) string {
	l := strings.Split(text, " ")
	at := c.r.Intn(len(l))
	switch c.r.Intn(3) {
	case 0:
		l = slices.Delete(l, at, at+1)
	case 1:
		l = slices.Insert(l, at, c.one(append(builders(), ":", ";", "'", "[']", "to", "exit", "5", "zz", "value", "instance", `"`, `" a"`)...))
	case 2:
		other := c.r.Intn(len(l))
		l[at], l[other] = l[other], l[at]
	}
	return strings.Join(l, " ")
}

// P15.1, P15.2: random texts, and such of which a little is changed.
func TestRandomTexts(t *testing.T) {
	c := newClerk(15)
	ends := map[bool]int{}
	for range 1500 {
		text := c.text()
		ends[asModel(t, text)]++
		for range 2 {
			ends[asModel(t, c.spoilt(text))]++
		}
	}
	if ends[true] < 1000 || ends[false] < 1000 {
		t.Error(ends)
	}
}

// P1, P15.1: any bytes are refused or compiled, and nothing panics.
func TestRandomBytes(t *testing.T) {
	c := newClerk(151)
	for range 3000 {
		b := make([]byte, c.r.Intn(40))
		c.r.Read(b)
		asModel(t, string(b))
		some := ": ;'5d\"(.)[] \n\\"
		for i := range b {
			b[i] = some[c.r.Intn(len(some))]
		}
		asModel(t, string(b))
	}
}

// P15.2: what is compiled is a program whose body is read as the tokens again.
func TestProgramIsOfTheTokens(t *testing.T) {
	c := newClerk(152)
	n := 0
	for range 3000 {
		text := c.text()
		l, e := fcc.Tokens(text)
		b, f := fcc.Compile(text)
		if e != f {
			t.Fatalf("%q: %v and %v", text, e, f)
		}
		if e != api.OK {
			continue
		}
		n++
		body, wide, e := head.Check(b)
		back, f := token.Decode(body, wide)
		if e != api.OK || f != api.OK || !wide || !slices.Equal(back, l) || len(b) != len(body)+8 {
			t.Fatalf("%q: %x, %v, %v: %s; want %s", text, b, e, f, told(back), told(l))
		}
		if again, e := fcc.Compile(text); e != api.OK || !bytes.Equal(again, b) {
			t.Fatalf("%q: %x, and then %x", text, b, again)
		}
	}
	if n < 1500 {
		t.Errorf("only %d are compiled", n)
	}
}

// ops: a definition's tokens as the instructions that they stand for, each branch leading where its offset leads; words are told by their numbers in a dictionary.
func ops(l []api.Tok) []api.Op {
	at := places(l)
	kinds := map[int]int{0x13: api.OBranch, 0x14: api.OZero, 0x15: api.OLoop, 0x16: api.OPlus, 0x17: api.ODo, 0x18: api.OQDo, 0x1b: api.OLeave, 0x1c: api.OOf, 0xc6: api.OBranch, 0xc5: api.ODrop, 0x33: api.OExit, 0x10: api.OLit, 0x11: api.OLit, 0xc3: api.OTo, 0xb1: 0, 0xb2: 0, 0xc4: 0}
	before := map[int]uint32{} // how many instructions are ahead of a place
	n := uint32(0)
	for i, x := range l {
		before[at[i]] = n
		if kind, ok := kinds[x.Code]; !ok || kind != 0 {
			n++
		}
	}
	before[at[len(l)]] = n
	number := func(code int) uint32 {
		if code >= 0x800 {
			return uint32(api.Prims + code - 0x800)
		}
		xt, _ := dict.Code(api.Machine{}, code)
		return uint32(xt)
	}
	var made []api.Op
	var ends []uint32 // of the loops that are open, the places behind them
	for i, x := range l {
		kind, ok := kinds[x.Code]
		if ok && kind == 0 {
			continue
		}
		o := api.Op{Kind: kind}
		switch {
		case !ok:
			o = api.Op{Kind: api.OCall, N: number(x.Code)}
		case withOffset(x.Code):
			o.N = before[at[i]+1+x.Off]
		case x.Code == 0x10:
			o.N = x.N
		case x.Code == 0x11, x.Code == 0xc3:
			o.N = number(int(x.N))
		case x.Code == 0x1b:
			o.N = ends[len(ends)-1]
		}
		switch x.Code {
		case 0x17, 0x18:
			ends = append(ends, o.N)
		case 0x15, 0x16:
			ends = ends[:len(ends)-1]
		}
		made = append(made, o)
	}
	return made
}

// P15.1, P15.2: definitions are refused as layer 12 refuses them, with the same error; else their branches lead, by their offsets, where those of layer 12's words do.
func TestAsInterpreted(t *testing.T) {
	c := newClerk(153)
	ends := map[api.Errno]int{}
	for range 4000 {
		c.names = nil
		var l []string
		for range 1 + c.r.Intn(3) {
			name := c.newName()
			s := ": " + name + " " + c.inside(0) + " ;"
			if c.seldom(3) {
				s = c.one("defer ", "variable ") + name
			}
			c.names = append(c.names, name)
			l = append(l, s)
		}
		text := strings.Join(l, " ")
		if c.seldom(3) {
			text = c.spoilt(text)
		}
		if strings.Contains(text, `"`) || strings.Contains(text, ".(") {
			// A text takes memory, and what layer 12 compiles tells its address.
			continue
		}
		// Of what is left outside of a definition nothing is run: the first step is refused.
		m, _, wantE := outer.Eval(dict.New(), text, 0)
		if wantE == api.ErrFuel || wantE == api.ErrLong || wantE == api.ErrUnder || wantE == api.ErrRoom {
			continue
		}
		toks, e := fcc.Tokens(text)
		if strings.Contains(text, "to ") && e == api.OK && wantE == api.ErrWord {
			// Outside of a definition layer 12 asks what the word is.
			continue
		}
		ends[e]++
		if e != wantE {
			t.Fatalf("%q: %v; interpreted: %v", text, e, wantE)
		}
		if e == api.OK {
			sameWords(t, text, m.Words[api.Prims:], toks)
		}
	}
	if ends[api.OK] < 800 || ends[api.ErrControl] < 100 || ends[api.ErrWord] < 50 || ends[api.ErrText] < 5 {
		t.Error(ends)
	}
}

// sameWords: that the tokens define those words, by their names and their instructions.
func sameWords(t *testing.T, text string, words []api.Word, l []api.Tok) {
	t.Helper()
	n := 0
	for i, x := range l {
		if x.Code != 0xb6 {
			continue
		}
		w := words[n]
		if w.Name != x.Text || int(x.N) != 0x800+n {
			t.Fatalf("%q: %s, and the word %q", text, told(l), w.Name)
		}
		n++
		if l[i+1].Code != 0xb7 {
			continue
		}
		end := i + 2 + slices.IndexFunc(l[i+2:], func(x api.Tok) bool { return x.Code == 0xc2 })
		if got := ops(l[i+2 : end]); !slices.Equal(got, w.Code) {
			t.Fatalf("%q: %s: %v; interpreted: %v", text, told(l), got, w.Code)
		}
	}
	if n != len(words) {
		t.Fatalf("%q: %s: %d words; interpreted: %d", text, told(l), n, len(words))
	}
}

// P1: the text that was handed in isn't kept: what becomes of its bytes changes nothing of the answer.
func TestTextIsNotKept(t *testing.T) {
	c := newClerk(154)
	for range 500 {
		text := c.text()
		want, _ := fcc.Tokens(text)
		was := told(want)
		b := []byte(text)
		l, _ := fcc.Tokens(unsafe.String(unsafe.SliceData(b), len(b)))
		if string(b) != text {
			t.Fatalf("%q: now %q", text, b)
		}
		for i := range b {
			b[i] = '?'
		}
		if told(l) != was {
			t.Fatalf("%q: %s; want %s", text, told(l), was)
		}
	}
}
