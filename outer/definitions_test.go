package outer_test

import (
	"bytes"
	"fmt"
	"math/rand"
	"slices"
	"strings"
	"testing"

	"tinder/api"
	"tinder/scan"
)

// unrun: has the text of a definition changed nothing but the dictionary, by its own word, and the memory, by its texts?
func unrun(t *testing.T, m api.Machine, text string) bool {
	t.Helper()
	y, left, e := eval(t, m, text, 0)
	if e != api.OK {
		return false
	}
	want := twin(m)
	l, _ := scan.Cut(text)
	for _, token := range l {
		if token.Kind == api.TWord {
			continue
		}
		for len(want.Mem)%4 != 0 {
			want.Mem = append(want.Mem, 0)
		}
		want.Mem = append(want.Mem, token.Text...)
	}
	n := len(m.Words)
	if len(y.Words) != n+1 {
		t.Fatalf("%q: %d words behind %d", text, len(y.Words), n)
	}
	w := y.Words[n]
	if w.Name != l[1].Text || w.Node != m.Node || w.Kind != api.WColon || w.N != 0 {
		t.Fatalf("%q: the word is %v", text, w)
	}
	want.Words = append(want.Words, w)
	if left != 0 || !alike(y, want) {
		t.Fatalf("%q: %d left, %v; want %v", text, left, y, want)
	}
	return true
}

// P12.3: a definition that is never run changes nothing but the dictionary and the memory of its texts, and takes no step.
func TestNeverRun(t *testing.T) {
	for _, body := range []string{
		"", "5 6 7", "drop drop drop", "zz", "1 0 /", "5 throw", "9 to v", "' k to d", "['] k to d", "0 to c", "16 base!", "65 emit cr", `0 " x" new-device`, "finish-device finish-device", "100 alloc-mem",
		`." shown"`, `" a" " bc" ." def" .( g)`, "begin again", "10 0 do i . loop", "exit 5", ">r r> r>", "9 0 !", `5 encode-int " p" property`, "case 1 of 2 endof endcase", "if 5 else 6 then",
	} {
		for _, m := range []api.Machine{desk(), holding(as(atWork(desk(), disk), onDisk), many(api.MaxStack)...), atWork(desk(), bus)} {
			if !unrun(t, m, ": x "+body+" ;") && body != "zz" && body != "' k to d" {
				t.Errorf("%q is refused", body)
			}
		}
	}
	c := &clerk{r: rand.New(rand.NewSource(123))}
	times := 0
	for range 4000 {
		c.names = nil
		if unrun(t, c.machine(), strings.Join(c.definition(), " ")) {
			times++
		}
	}
	if times < 2000 {
		t.Errorf("only %d definitions came through", times)
	}
}

// bench: a machine for definitions: with values, a deferred word, a variable, and a word that throws.
func bench(t *testing.T) api.Machine {
	return done(t, desk(), "5 value c0 5 value c1 5 value c2 5 value c3 variable w defer e ' dup to e : bad 7 throw ; : sq dup * ; 8 8 8")
}

// words: those that do the same wherever they stand; ' is ['] in a definition.
func (c *clerk) words() []string {
	switch c.r.Intn(12) {
	case 0, 1, 2:
		return []string{c.one("4", "5", "-7", "h#1f", "1", "0", "-1", "3", "k", "v", "w")}
	case 3:
		return []string{c.one("dup", "over", "tuck", "2dup", "depth", "?dup", "e", "sq", "twice")}
	case 4, 5:
		return []string{c.one("drop", "swap", "+", "-", "*", "rot", "nip", "2drop", "xor", "negate", "0=", "<", "max", "2*")}
	case 6:
		return []string{c.one(".", "u.", "65 emit", "cr", `." hi"`, ".( x)", "16 base!", "10 base!")}
	case 7:
		return []string{c.one("5 to v", "to v", "v 1 + to v", "9 w !", "w @", "1 w +!")}
	case 8:
		return []string{"'", c.one("dup", "drop", "sq", "bad", "k", "twice"), c.one("catch", "execute", "catch drop", "to e")}
	case 9:
		return []string{c.one("0 4 2 new-device finish-device", "finish-device", "4 2 type", "5 c@ emit", "my-self")}
	case 10:
		if c.seldom(8) {
			return []string{c.one("bad", "2rot", "99 @", "1 0 /", "c", "999 execute", "3 throw", "40 base!")}
		}
	}
	return []string{c.one("5", "k", "dup", "drop")}
}

// inDefinition: the text as it stands in a definition.
func inDefinition(l []string) string {
	l = slices.Clone(l)
	for i, s := range l {
		if s == "'" {
			l[i] = "[']"
		}
	}
	return strings.Join(l, " ")
}

// sameDone: the same machine, but for the words from number n on and, from that size on, the memory.
func sameDone(a, b api.Machine, words, size int) bool {
	if !bytes.Equal(a.Mem[:size], b.Mem[:size]) {
		return false
	}
	a.Mem, b.Mem = nil, nil
	a.Words, b.Words = a.Words[:words], b.Words[:words]
	return alike(a, b)
}

// P12.3: a definition of words does what they do one behind the other outside of one, to the same machine or the same error; each instruction takes a step beside.
func TestDoesWhatItsWordsDo(t *testing.T) {
	c := &clerk{r: rand.New(rand.NewSource(124))}
	ends := map[api.Errno]int{}
	for range 3000 {
		m := bench(t)
		if c.seldom(6) {
			m.Stack = many(api.MaxStack - c.r.Intn(3))
		}
		var l []string
		for range c.r.Intn(14) {
			l = append(l, c.words()...)
		}
		outside := strings.Join(l, " ")
		inside := ": x " + inDefinition(l) + " ; x"
		y, left, e := eval(t, m, outside, plenty)
		z, after, f := eval(t, m, inside, plenty)
		ends[e]++
		if e != f {
			t.Fatalf("%s: %v; %s: %v", outside, e, inside, f)
		}
		if e != api.OK {
			continue
		}
		n := len(m.Words)
		if !sameDone(y, z, n, len(m.Mem)) || len(z.Words) != n+1 || len(y.Words) != n {
			t.Fatalf("%s: %v; inside: %v", outside, y.Stack, z.Stack)
		}
		// Texts are laid in the same order, and nothing else asks for memory.
		if !bytes.Equal(y.Mem, z.Mem) {
			t.Fatalf("%s: %v; inside: %v", outside, y.Mem, z.Mem)
		}
		if more := 1 + len(z.Words[n].Code); left-after != more {
			t.Fatalf("%s: inside it takes %d steps more; want %d", outside, left-after, more)
		}
	}
	if ends[api.OK] < 1000 || ends[api.ErrUnder] < 50 || ends[api.ErrThrow] < 20 || ends[api.ErrOver] < 20 {
		t.Error(ends)
	}
}

// A branchy part of a definition.
type part struct {
	shape int
	words []string // of plain words
	rows  [][]part
	cells []int // what it is steered by
	deep  int   // how many parts it stands in
}

const (
	plainWords = iota
	anIf
	anElse
	anUntil
	aWhile
	aDo
	aQDo
	aPlus
	aCase
	anIndex // i
	outerIndex
	aLeave // if the index has come so far
	anExit // out of all loops
	shapes
)

// A way is how a definition was gone through: its words, one behind the other.
type way struct {
	words   []string
	indexes []int
}

const (
	goesOn = iota
	isLeft
	isGone
)

func cellText(n int) string { return fmt.Sprintf("d#%d", n) }

// row: random parts, within so many others and so many loops.
func (c *clerk) row(deep, loops int) []part {
	var l []part
	for range 1 + c.r.Intn(3) {
		l = append(l, c.part(deep, loops))
	}
	return l
}

func (c *clerk) part(deep, loops int) part {
	shape := c.r.Intn(shapes)
	if deep > 3 && shape < anIndex || c.seldom(3) {
		shape = plainWords
	}
	if shape == anIndex && loops < 1 || shape == outerIndex && loops < 2 || shape == aLeave && loops < 1 || shape == anExit && !c.seldom(4) {
		shape = plainWords
	}
	p := part{shape: shape, deep: deep}
	row := func(more int) []part { return c.row(deep+1, loops+more) }
	switch shape {
	case plainWords:
		p.words = c.words()
	case anIf, anUntil, aWhile:
		p.rows, p.cells = [][]part{row(0)}, []int{c.r.Intn(3)}
	case anElse:
		p.rows, p.cells = [][]part{row(0), row(0)}, []int{c.r.Intn(2)}
	case aDo, aQDo:
		from := c.r.Intn(5) - 2
		p.rows, p.cells = [][]part{row(1)}, []int{from, from + c.r.Intn(4)}
		if shape == aDo && p.cells[0] == p.cells[1] {
			p.cells[1]++
		}
	case aPlus:
		from := c.r.Intn(9) - 4
		step := 1 + c.r.Intn(3)
		p.rows, p.cells = [][]part{row(1)}, []int{from, from + 1 + c.r.Intn(6), step}
		if c.seldom(2) {
			p.cells = []int{from, from - c.r.Intn(6), -step}
		}
	case aCase:
		p.rows, p.cells = [][]part{row(0), row(0), row(0)}, []int{c.r.Intn(4), c.r.Intn(3), c.r.Intn(3)}
	case aLeave:
		p.cells = []int{c.r.Intn(5) - 2}
	case anExit:
		p.cells = []int{c.r.Intn(2), loops}
	}
	return p
}

func (p part) counter() string { return fmt.Sprintf("c%d", p.deep) }

// write: the text of parts, as a definition has it.
func write(row []part) string {
	var l []string
	for _, p := range row {
		l = append(l, p.write())
	}
	return strings.Join(l, " ")
}

func (p part) write() string {
	cell := func(i int) string { return cellText(p.cells[i]) }
	switch p.shape {
	case plainWords:
		return inDefinition(p.words)
	case anIf:
		return cell(0) + " if " + write(p.rows[0]) + " then"
	case anElse:
		return cell(0) + " if " + write(p.rows[0]) + " else " + write(p.rows[1]) + " then"
	case anUntil:
		k := p.counter()
		return fmt.Sprintf("%d to %s begin %s %s 1 - to %s %s 0< until", p.cells[0], k, write(p.rows[0]), k, k, k)
	case aWhile:
		k := p.counter()
		return fmt.Sprintf("%d to %s begin %s while %s %s 1 - to %s repeat", p.cells[0], k, k, write(p.rows[0]), k, k)
	case aDo:
		return cell(1) + " " + cell(0) + " do " + write(p.rows[0]) + " loop"
	case aQDo:
		return cell(1) + " " + cell(0) + " ?do " + write(p.rows[0]) + " loop"
	case aPlus:
		return cell(1) + " " + cell(0) + " do " + write(p.rows[0]) + " " + cell(2) + " +loop"
	case aCase:
		return fmt.Sprintf("%s case %s of %s endof %s of %s endof %s endcase", cell(0), cell(1), write(p.rows[0]), cell(2), write(p.rows[1]), write(p.rows[2]))
	case anIndex:
		return "i"
	case outerIndex:
		return "j"
	case aLeave:
		return "i " + cell(0) + " >= if leave then"
	}
	return cell(0) + " if " + strings.Repeat("unloop ", p.cells[1]) + "exit then"
}

func (y *way) say(l ...string) { y.words = append(y.words, l...) }

// follow: parts are gone through, by the language's own ifs and loops; what the part's own words put on the stack is put there, and taken.
func (y *way) follow(row []part) int {
	for _, p := range row {
		if how := y.part(p); how != goesOn {
			return how
		}
	}
	return goesOn
}

func (y *way) part(p part) int {
	cell := func(i int) string { return cellText(p.cells[i]) }
	index := func(n int) int { return y.indexes[len(y.indexes)-n] }
	switch p.shape {
	case plainWords:
		y.say(p.words...)
	case anIf, anElse:
		y.say(cell(0), "drop")
		if p.cells[0] != 0 {
			return y.follow(p.rows[0])
		}
		if p.shape == anElse {
			return y.follow(p.rows[1])
		}
	case anUntil, aWhile:
		return y.counted(p)
	case aDo, aQDo, aPlus:
		return y.loop(p)
	case aCase:
		return y.choice(p)
	case anIndex:
		y.say(cellText(index(1)))
	case outerIndex:
		y.say(cellText(index(2)))
	case aLeave:
		y.say(cellText(index(1)), cell(0), ">=", "drop")
		if index(1) >= p.cells[0] {
			return isLeft
		}
	case anExit:
		y.say(cell(0), "drop")
		if p.cells[0] != 0 {
			return isGone
		}
	}
	return goesOn
}

func (y *way) counted(p part) int {
	k := p.counter()
	y.say(fmt.Sprint(p.cells[0]), "to", k)
	if p.shape == anUntil {
		for n := p.cells[0]; n >= 0; n-- {
			if how := y.follow(p.rows[0]); how != goesOn {
				return how
			}
			y.say(k, "1", "-", "to", k, k, "0<", "drop")
		}
		return goesOn
	}
	for n := p.cells[0]; n > 0; n-- {
		y.say(k, "drop")
		if how := y.follow(p.rows[0]); how != goesOn {
			return how
		}
		y.say(k, "1", "-", "to", k)
	}
	y.say(k, "drop")
	return goesOn
}

func (y *way) loop(p part) int {
	from, limit, step := p.cells[0], p.cells[1], 1
	y.say(cellText(limit), cellText(from), "2drop")
	if p.shape == aPlus {
		step = p.cells[2]
	}
	if p.shape == aQDo && from == limit {
		return goesOn
	}
	height := len(y.indexes)
	defer func() { y.indexes = y.indexes[:height] }()
	for i := from; ; i += step {
		// Upwards the limit ends a loop, downwards what is below it does.
		if i != from && (step > 0 && i >= limit || step < 0 && i < limit) {
			return goesOn
		}
		y.indexes = append(y.indexes[:height], i)
		switch how := y.follow(p.rows[0]); how {
		case isLeft:
			return goesOn
		case isGone:
			return how
		}
		if p.shape == aPlus {
			y.say(cellText(step), "drop")
		}
	}
}

func (y *way) choice(p part) int {
	y.say(cellText(p.cells[0]))
	for i := range 2 {
		y.say(cellText(p.cells[i+1]))
		if p.cells[0] == p.cells[i+1] {
			y.say("2drop")
			return y.follow(p.rows[i])
		}
		y.say("drop")
	}
	how := y.follow(p.rows[2])
	if how == goesOn {
		y.say("drop")
	}
	return how
}

// evalWords: any number of words, one behind the other, in as many texts as that takes; a word and its name stand in one.
func evalWords(t *testing.T, m api.Machine, words []string) (api.Machine, api.Errno) {
	t.Helper()
	for len(words) > 0 {
		n := min(100, len(words))
		for n < len(words) && (words[n-1] == "to" || words[n-1] == "'") {
			n++
		}
		y, _, e := eval(t, m, strings.Join(words[:n], " "), api.MaxFuel)
		if e != api.OK {
			return api.Machine{}, e
		}
		m, words = y, words[n:]
	}
	return m, api.OK
}

// P12.3: a definition with conditions, loops and cases does what the words do that it comes to, one behind the other.
func TestDoesWhatItsPartsDo(t *testing.T) {
	c := &clerk{r: rand.New(rand.NewSource(125))}
	ends := map[api.Errno]int{}
	for range 4000 {
		row := c.row(0, 0)
		text := ": x " + write(row) + " ;"
		var y way
		y.follow(row)
		if len(text) > api.MaxText || len(y.words) > 2000 {
			continue
		}
		m := bench(t)
		if c.seldom(6) {
			m.Stack = many(api.MaxStack - c.r.Intn(6))
		}
		defined, _, e := eval(t, m, text, 0)
		if e == api.ErrLong {
			continue
		}
		if e != api.OK {
			t.Fatalf("%s: %v", text, e)
		}
		want, wantE := evalWords(t, m, y.words)
		got, _, e := eval(t, defined, "x", api.MaxFuel)
		if wantE == api.ErrRoom {
			// Outside of the definition a text is laid as often as it is shown.
			continue
		}
		ends[e]++
		if e != wantE {
			t.Fatalf("%s: %v; its words %s: %v", text, e, y.words, wantE)
		}
		if e == api.OK && !sameDone(got, want, len(m.Words), len(m.Mem)) {
			t.Fatalf("%s: %v, %q; its words %s: %v, %q", text, got.Stack, got.Out, y.words, want.Stack, want.Out)
		}
	}
	if ends[api.OK] < 1000 || ends[api.ErrUnder] < 50 || ends[api.ErrOver] < 50 {
		t.Error(ends)
	}
}
