package outer_test

import (
	"fmt"
	"math"
	"math/rand"
	"slices"
	"strings"
	"testing"

	"tinder/api"
	"tinder/dict"
	"tinder/outer"
)

// A clerk writes random texts, most of which aren't refused at once, and machines for them.
type clerk struct {
	r     *rand.Rand
	names []string // those that the text has defined
}

func (c *clerk) one(l ...string) string { return l[c.r.Intn(len(l))] }

// seldom: true once in so many times.
func (c *clerk) seldom(n int) bool { return c.r.Intn(n) == 0 }

// newName: one to define.
func (c *clerk) newName() string {
	if c.seldom(60) {
		return c.one("é", strings.Repeat("n", 32), `" dup"`, "")
	}
	c.names = append(c.names, c.one("a", "b", "e", "f", "g", "k", "v", "d", "c", "twice", "dup", "+", "type", "if", ";", "5", "0"))
	return c.names[len(c.names)-1]
}

// name: one to find.
func (c *clerk) name() string {
	if c.seldom(60) {
		return c.one("zz", "é", strings.Repeat("n", 32), `" dup"`, "")
	}
	if len(c.names) > 0 && !c.seldom(3) {
		return c.one(c.names...)
	}
	return c.one("k", "v", "d", "c", "twice", "dup", "+", "type", "0", "var", "drop")
}

func (c *clerk) number() string {
	return c.one("0", "1", "2", "3", "-1", "4", "5", "6", "7", "8", "16", "37", "-2", "h#ff", "b#101", "o#17", "4000", "4294967295", "111", "112", "-2147483648")
}

// plain: words that may stand in both states.
func (c *clerk) plain() []string {
	switch c.r.Intn(16) {
	case 0, 1, 2:
		return []string{c.number(), c.number()}
	case 3:
		return []string{dict.Prims()[c.r.Intn(api.Prims)].Name}
	case 4:
		return []string{c.number(), c.number(), c.number(), dict.Prims()[c.r.Intn(api.Prims)].Name}
	case 5:
		return []string{c.number(), "to", c.name()}
	case 6:
		return []string{c.name()}
	case 7:
		return []string{c.one(`" abc"`, `" "`, `" x"(00 41)y"`, `." hi"`, `.( a"b)`, `." "`)}
	case 8:
		return []string{c.one("( note )", "\\ note\n", "( : if ; )", "\\ ; \" \n")}
	case 9:
		return []string{c.one("over", "swap", "drop", "dup", "depth", ".", "emit", "here", "cr", "u.", "2drop", "rot", "bl", "k", "twice")}
	case 10:
		return []string{`" r"`, c.one("encode-string", "get-my-property", "delete-property", "2dup property", "type", "2drop")}
	case 11:
		return []string{"0", c.one(`" x"`, `" y"`, `" bus"`), "new-device"}
	case 12:
		return []string{"finish-device"}
	}
	return []string{c.one("k", "v", "d", "drop", "2drop", "dup", "4 drop", "5 1 -")}
}

// outside: what stands outside of a definition.
func (c *clerk) outside() []string {
	switch c.r.Intn(12) {
	case 0:
		return []string{c.number(), c.one("constant", "value", "VALUE", "buffer:"), c.newName()}
	case 1:
		return []string{c.one("variable", "defer", "Defer"), c.newName()}
	case 2:
		return []string{c.number(), "instance", "value", c.newName()}
	case 3:
		return []string{"'", c.name(), c.one("execute", "catch", "catch drop", "to d", "drop")}
	case 4, 5, 6:
		return c.definition()
	case 7:
		if c.seldom(8) {
			return []string{c.one("if", "then", "exit", "[']", ";", "loop", "zz", "instance", "instance constant x", ":", "'", "to", "constant")}
		}
	}
	return c.plain()
}

func (c *clerk) definition() []string {
	l := append([]string{":", c.newName()}, c.body(3)...)
	if c.seldom(40) {
		return l
	}
	return append(l, ";")
}

// body: what stands inside of a definition, with so many parts in one another.
func (c *clerk) body(depth int) []string {
	var l []string
	for range c.r.Intn(4) {
		l = append(l, c.inside(depth)...)
	}
	return l
}

func (c *clerk) inside(depth int) []string {
	if depth == 0 {
		return c.plain()
	}
	in := func(l ...string) []string {
		var all []string
		for _, s := range l {
			if s == "_" {
				all = append(all, c.body(depth-1)...)
			} else {
				all = append(all, s)
			}
		}
		return all
	}
	switch c.r.Intn(22) {
	case 0:
		return in(c.number(), "if", "_", "then")
	case 1:
		return in(c.number(), "if", "_", "else", "_", "then")
	case 2:
		return in("begin", "_", c.number(), "until")
	case 3:
		return in("begin", "_", "dup", "while", "_", "repeat")
	case 4:
		return in("begin", "_", "again")
	case 5:
		return in(c.number(), c.number(), c.one("do", "?do"), "_", "loop")
	case 6:
		return in("5", "0", c.one("do", "?do"), "_", "i", "_", "leave", "_", c.number(), "+loop")
	case 7:
		return in(c.number(), "case", "_", c.number(), "of", "_", "endof", c.number(), "of", "_", "endof", "_", "endcase")
	case 8:
		return []string{"exit"}
	case 9:
		return []string{"[']", c.name(), c.one("execute", "catch", "drop")}
	case 10:
		if c.seldom(10) {
			return []string{c.one("if", "then", "else", "loop", "'", "value x", "instance", ":", "case", "endof", "zz", "[']", "to")}
		}
	}
	return c.plain()
}

// text: some phrases, as pieces of a text.
func (c *clerk) text() []string {
	c.names = nil
	var l []string
	for range 1 + c.r.Intn(8) {
		l = append(l, c.outside()...)
	}
	return l
}

// machine: one of which some things may be near their limits.
func (c *clerk) machine() api.Machine {
	m := desk()
	m.Node = c.r.Intn(4) - 1
	if c.seldom(2) {
		m.Self = onDisk
	}
	m.Stack = many(c.r.Intn(6))
	if c.seldom(8) {
		m = holding(m, many(api.MaxStack-c.r.Intn(4))...)
	}
	if c.seldom(8) {
		m = sized(m, api.MaxMem-c.r.Intn(24))
	}
	if c.seldom(8) {
		m = wordy(m, api.MaxWords-c.r.Intn(3))
	}
	if c.seldom(8) {
		m = shown(m, api.MaxOut-c.r.Intn(5))
	}
	if c.seldom(6) {
		m = celled(m, bus, api.MaxCells-c.r.Intn(2))
	}
	if c.seldom(6) {
		m.Insts = append(m.Insts, api.Inst{Node: 0, Parent: onDisk})
	}
	return m
}

func (c *clerk) fuel() int {
	if c.seldom(5) {
		return c.r.Intn(12)
	}
	return 500
}

// held: does Eval answer what the model comes to? The error.
func held(t *testing.T, builds map[string][]int, m api.Machine, text string, fuel int) api.Errno {
	t.Helper()
	x := model{m: twin(m), fuel: fuel, builds: builds}
	want := x.eval(text)
	y, left, e := eval(t, m, text, fuel)
	if e != want {
		t.Fatalf("%q on %v with %d steps: %v; want %v", text, m.Stack, fuel, e, want)
	}
	if e == api.OK && (left != x.fuel || !alike(y, x.m)) {
		t.Fatalf("%q on %v with %d steps: %d left, %v, %v; want %d left, %v, %v", text, m.Stack, fuel, left, y.Stack, later(y), x.fuel, x.m.Stack, later(x.m))
	}
	return e
}

// P12.1: random texts on random machines come to what the model comes to; what comes of them is formed (eval asks that).
func TestAgainstModel(t *testing.T) {
	c := &clerk{r: rand.New(rand.NewSource(12))}
	builds := builders(t)
	ends := map[api.Errno]int{}
	for range 12000 {
		text := strings.Join(c.text(), c.one(" ", " ", "\n", "  "))
		ends[held(t, builds, c.machine(), text, c.fuel())]++
	}
	for _, e := range []api.Errno{
		api.OK, api.ErrUnder, api.ErrOver, api.ErrRoom, api.ErrFuel, api.ErrRet, api.ErrControl, api.ErrWord, api.ErrText, api.ErrOut, api.ErrNode, api.ErrSelf, api.ErrMany,
	} {
		if ends[e] < 20 {
			t.Errorf("%v ended a text only %d times: %v", e, ends[e], ends)
		}
	}
	if ends[api.OK] < 2000 {
		t.Errorf("only %d texts came through", ends[api.OK])
	}
}

// short: texts of all rows of so many of the pieces.
func short(pieces []string, n int, do func(l []string)) {
	l := make([]string, n)
	var each func(i int)
	each = func(i int) {
		if i == n {
			do(l)
			return
		}
		for _, p := range pieces {
			l[i] = p
			each(i + 1)
		}
	}
	each(0)
}

// P12.1: all short texts of a few words come to what the model comes to.
// P12.2: each of them is interpreted as its two parts, wherever the first one ends interpreting.
func TestAllShortTexts(t *testing.T) {
	builds := builders(t)
	for _, pieces := range [][]string{
		{":", ";", "v", "5", "if", "then", "'", "to", `" a"`},
		{":", ";", "instance", "value", "constant", "dup", "[']", `." a"`, "exit"},
	} {
		for n := range 5 {
			short(pieces, n, func(l []string) {
				m := holding(atWork(desk(), bus), 4)
				held(t, builds, m, strings.Join(l, " "), 9)
				parted(t, m, l, " ", 9)
			})
		}
	}
}

// parted: is the text interpreted as its two parts, wherever the first one comes through?
func parted(t *testing.T, m api.Machine, pieces []string, blank string, fuel int) int {
	t.Helper()
	all := strings.Join(pieces, blank)
	want, wantLeft, wantE := eval(t, m, all, fuel)
	times := 0
	for i := range len(pieces) + 1 {
		a, b := strings.Join(pieces[:i], blank), strings.Join(pieces[i:], blank)
		between, left, e := eval(t, m, a, fuel)
		if e != api.OK {
			continue
		}
		times++
		y, left, e := eval(t, between, b, left)
		if e != wantE || left != wantLeft || !alike(y, want) {
			t.Fatalf("%q, then %q: %v, %d left, %v; together %v, %d left, %v", a, b, e, left, y.Stack, wantE, wantLeft, want.Stack)
		}
	}
	return times
}

// P12.2: random texts on random machines are interpreted as their parts.
func TestParts(t *testing.T) {
	c := &clerk{r: rand.New(rand.NewSource(122))}
	times := 0
	for range 600 {
		times += parted(t, c.machine(), c.text(), c.one(" ", "\n", "\t"), c.fuel())
	}
	if times < 2500 {
		t.Errorf("only %d times was there a first part", times)
	}
}

// P12.2: what one part defines, the next one knows; what it lays, lies; steps go on where they were.
func TestPartsTold(t *testing.T) {
	m, left, e := outer.Eval(dict.New(), `: sq dup * ; 5 value v variable w " ab"`, 50)
	if e != api.OK || left != 50 {
		t.Fatal(e, left)
	}
	y, left, e := outer.Eval(m, "type 3 sq to v v w !", left)
	if e != api.OK || left != 50-1-1-5-1-1-1 || y.Out != "ab" || y.Mem[3] != 9 {
		t.Error(e, left, y.Out, y.Mem)
	}
	// Nothing of a definition goes from text to text: one that didn't end is refused, and another text interprets.
	if _, _, e := outer.Eval(m, ": open 5", 50); e != api.ErrControl {
		t.Error(e)
	}
	if y, _, e := outer.Eval(m, "5", 50); e != api.OK || y.Stack[len(y.Stack)-1] != 5 {
		t.Error(e)
	}
}

// spared: a list like l with spare room behind it, which is marked.
func spared[T any](l []T, mark T) []T {
	all := append(slices.Clone(l), mark, mark)
	return all[:len(l)]
}

// sparedMachine: m with marked spare room behind each of its lists.
func sparedMachine(m api.Machine) api.Machine {
	m = twin(m)
	m.Stack, m.Mem, m.Codes = spared(m.Stack, 77), spared(m.Mem, 77), spared(m.Codes, 77)
	m.Words, m.Tree, m.Insts = spared(m.Words, api.Word{N: 77}), spared(m.Tree, api.Node{Parent: 77}), spared(m.Insts, api.Inst{Node: 77})
	for i := range m.Words {
		m.Words[i].Code = spared(m.Words[i].Code, api.Op{N: 77})
	}
	for i := range m.Tree {
		d := &m.Tree[i]
		d.Unit, d.Cells, d.Props = spared(d.Unit, 77), spared(d.Cells, 77), spared(d.Props, api.Prop{Name: "mark"})
		for k := range d.Props {
			d.Props[k].Data = spared(d.Props[k].Data, 77)
		}
	}
	for i := range m.Insts {
		m.Insts[i].Cells = spared(m.Insts[i].Cells, 77)
	}
	return m
}

// all: the list with its spare room.
func all[T any](l []T) []T { return l[:cap(l)] }

// opened: m with the spare room of each of its lists laid open, told as a text.
func opened(m api.Machine) string {
	var b strings.Builder
	fmt.Fprint(&b, all(m.Stack), all(m.Mem), all(m.Codes), m.Base, m.Node, m.Self, m.Out)
	for _, w := range all(m.Words) {
		fmt.Fprintf(&b, "%q %d %d %d %v ", w.Name, w.Node, w.Kind, w.N, all(w.Code))
	}
	for _, d := range all(m.Tree) {
		fmt.Fprintf(&b, "%q %v %d %v ", d.Name, all(d.Unit), d.Parent, all(d.Cells))
		for _, p := range all(d.Props) {
			fmt.Fprintf(&b, "%q %v ", p.Name, all(p.Data))
		}
	}
	for _, x := range all(m.Insts) {
		fmt.Fprintf(&b, "%d %d %q %v ", x.Node, x.Parent, x.Args, all(x.Cells))
	}
	return b.String()
}

// overwrite: each number of a list, spare room and all.
func overwrite[T uint32 | int | byte](l []T) {
	for i := range all(l) {
		all(l)[i] ^= 1
	}
}

// scribble: writes over all that m's lists hold, spare room and all.
func scribble(m api.Machine) {
	for i, w := range all(m.Words) {
		for k := range all(w.Code) {
			all(w.Code)[k].N ^= 1
		}
		all(m.Words)[i].N ^= 1
	}
	for i, d := range all(m.Tree) {
		overwrite(d.Unit)
		overwrite(d.Cells)
		for k, p := range all(d.Props) {
			overwrite(p.Data)
			all(d.Props)[k].Name += "!"
		}
		all(m.Tree)[i].Parent ^= 1
	}
	for i, x := range all(m.Insts) {
		overwrite(x.Cells)
		all(m.Insts)[i].Parent ^= 1
	}
	overwrite(m.Stack)
	overwrite(m.Codes)
	overwrite(m.Mem)
}

// shares: does the call leave its argument as it was, and answer new memory each time?
func shares(t *testing.T, name string, start api.Machine, do func(m api.Machine) api.Machine) {
	t.Helper()
	m := sparedMachine(start)
	kept := opened(m)
	one := do(m)
	if opened(m) != kept {
		t.Errorf("%s changes its argument", name)
	}
	two := do(m)
	answered := opened(two)
	if !alike(one, two) {
		t.Errorf("%s answers otherwise the second time", name)
	}
	scribble(one)
	if opened(m) != kept {
		t.Errorf("%s: its answer shares memory with its argument", name)
	}
	if opened(two) != answered {
		t.Errorf("%s: two answers share memory", name)
	}
	scribble(m)
	if opened(two) != answered {
		t.Errorf("%s keeps its argument", name)
	}
}

// P1: what is handed in is left as it was, spare room and all, and shares no memory with a machine that is answered; nothing is kept from call to call.
func TestNothingIsChangedOrShared(t *testing.T) {
	m := holding(as(atWork(desk(), bus), onDisk), 1, 2)
	for _, text := range []string{
		"", "( x )", "5", "dup", "' dup", "5 to v", "' k to d", "6 to c", `" ab"`, `." ab"`, ": x ;", ": x 5 dup ;", `: x " ab" type 5 if 6 else 7 then ; x`, "constant x", "value x", "variable x", "defer x",
		"buffer: x", "instance value x", "3 instance value y", "drop", "drop drop drop", "zz", ": x", `5 value y 0 " q" new-device 6 instance value z 1 encode-int " p" property finish-device y z to y`,
	} {
		shares(t, text, m, func(m api.Machine) api.Machine { y, _, _ := outer.Eval(m, text, plenty); return y })
	}
	for _, by := range []int{byConstant, byValue, byVariable, byDefer, byBuffer, 0} {
		shares(t, fmt.Sprint("Make ", by), m, func(m api.Machine) api.Machine { y, _ := outer.Make(m, by, false, "x"); return y })
	}
	shares(t, "Make of an instance", m, func(m api.Machine) api.Machine { y, _ := outer.Make(m, byValue, true, "x"); return y })
	for _, s := range []string{"", "a", "abcd"} {
		shares(t, "Lay "+s, m, func(m api.Machine) api.Machine { y, _, _ := outer.Lay(m, s); return y })
		shares(t, "Lay "+s, sized(m, 8), func(m api.Machine) api.Machine { y, _, _ := outer.Lay(m, s); return y })
	}
	c := &clerk{r: rand.New(rand.NewSource(1))}
	for range 150 {
		text := strings.Join(c.text(), " ")
		shares(t, text, c.machine(), func(m api.Machine) api.Machine { y, _, _ := outer.Eval(m, text, 200); return y })
	}
}

// P1: whatever is handed in, the calls end and don't panic.
func TestAnyArguments(t *testing.T) {
	r := rand.New(rand.NewSource(5))
	const bytes = " \n\t\":;().\\'5xv1#h[]ifthen\x00\xff"
	texts := []string{"", "x", strings.Repeat("x", 5000), strings.Repeat(": a ; ", 600), strings.Repeat("begin ", 600), ": x " + strings.Repeat("if ", 500), ": x " + strings.Repeat("case ", 500) + ";"}
	for range 300 {
		b := make([]byte, r.Intn(60))
		for i := range b {
			b[i] = bytes[r.Intn(len(bytes))]
			if r.Intn(10) == 0 {
				b[i] = byte(r.Intn(256))
			}
		}
		texts = append(texts, string(b))
	}
	for _, m := range append(notFormed(), desk(), holding(desk(), many(api.MaxStack)...), wordy(desk(), api.MaxWords)) {
		for _, text := range texts {
			outer.Acts(text)
			outer.Lay(m, text)
			for _, fuel := range []int{math.MinInt, 0, 50, math.MaxInt} {
				outer.Eval(m, text, fuel)
			}
		}
		for _, name := range []string{"", "x", "\xff", strings.Repeat("x", 5000)} {
			for _, by := range []int{math.MinInt, -1, 0, byConstant, byValue, byVariable, byDefer, byBuffer, math.MaxInt} {
				outer.Make(m, by, false, name)
				outer.Make(m, by, true, name)
			}
		}
	}
}
