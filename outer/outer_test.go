package outer_test

import (
	"maps"
	"slices"
	"strings"
	"testing"

	"tinder/api"
	"tinder/code"
	"tinder/dict"
	"tinder/inner"
	"tinder/outer"
)

// makes: does Make come to the machine that it is handed, changed so?
func makes(t *testing.T, m api.Machine, by int, instance bool, name string, change func(m *api.Machine)) {
	t.Helper()
	kept, want := twin(m), twin(m)
	change(&want)
	y, e := outer.Make(m, by, instance, name)
	if e != api.OK || !alike(y, want) || !dict.Formed(y) {
		t.Errorf("Make %x %q: %v, %v; want %v", by, name, later(y), e, later(want))
	}
	if !alike(m, kept) {
		t.Errorf("Make %x %q changes its argument", by, name)
	}
}

// added: the machine gets that word.
func added(m *api.Machine, w api.Word) { m.Words = append(m.Words, w) }

// P12.1: each way to make a word, with a name and without one, with a device at work and without one.
func TestMake(t *testing.T) {
	for _, name := range []string{"", "x", "dup", "k", ":", "if", "5", "\"", "~!@#$%^&*()_+{}|:<>?-=[];',./`", strings.Repeat("n", api.MaxName)} {
		for _, node := range []int{-1, 0, bus, disk} {
			m := holding(atWork(desk(), node), 8, 9)
			makes(t, m, byConstant, false, name, func(m *api.Machine) {
				m.Stack = cells(8)
				added(m, api.Word{Name: name, Node: node, Kind: api.WConst, N: 9})
			})
			makes(t, m, byValue, false, name, func(m *api.Machine) {
				m.Stack = cells(8)
				added(m, api.Word{Name: name, Node: node, Kind: api.WValue, N: 9})
			})
			makes(t, m, byDefer, false, name, func(m *api.Machine) {
				added(m, api.Word{Name: name, Node: node, Kind: api.WDefer})
			})
			makes(t, m, byVariable, false, name, func(m *api.Machine) {
				m.Mem = append(m.Mem, make([]byte, 2+4)...)
				added(m, api.Word{Name: name, Node: node, Kind: api.WVar, N: 8})
			})
			makes(t, m, byBuffer, false, name, func(m *api.Machine) {
				m.Stack = cells(8)
				m.Mem = append(m.Mem, make([]byte, 2+9)...)
				added(m, api.Word{Name: name, Node: node, Kind: api.WVar, N: 8})
			})
		}
		makes(t, holding(atWork(desk(), bus), 8, 9), byValue, true, name, func(m *api.Machine) {
			m.Stack = cells(8)
			m.Tree[bus].Cells = cells(1, 9)
			added(m, api.Word{Name: name, Node: bus, Kind: api.WInst, N: 1})
		})
		makes(t, holding(atWork(desk(), 0), minus(1)), byValue, true, name, func(m *api.Machine) {
			m.Stack = nil
			m.Tree[0].Cells = cells(minus(1))
			added(m, api.Word{Name: name, Node: 0, Kind: api.WInst})
		})
	}
}

// P12.1: a buffer of any size, one of no bytes too, and where new memory begins.
func TestMakeBuffer(t *testing.T) {
	for _, had := range []int{0, 1, 2, 3, 4, 5, 4095, 4096} {
		for _, n := range []uint32{0, 1, 3, 4, 5} {
			at := uint32((had + 3) / 4 * 4)
			m := holding(sized(desk(), had), n)
			y, e := outer.Make(m, byBuffer, false, "b")
			if at+n > api.MaxMem {
				if e != api.ErrRoom {
					t.Errorf("%d bytes behind %d: %v", n, had, e)
				}
				continue
			}
			want := append(slices.Clone(m.Mem), make([]byte, int(at+n)-had)...)
			if e != api.OK || y.Words[deskWords].N != at || !slices.Equal(y.Mem, want) {
				t.Errorf("%d bytes behind %d: %v, %d", n, had, e, len(y.Mem))
			}
		}
	}
}

// P12.1: a text laid into new memory, and where it begins.
func TestLay(t *testing.T) {
	for _, s := range []string{"", "a", "abc", "\x00\xff\n", strings.Repeat("z", 300)} {
		for _, had := range []int{0, 1, 2, 3, 4, 5, 6, 7, 8} {
			m := sized(desk(), had)
			want := twin(m)
			for len(want.Mem)%4 != 0 {
				want.Mem = append(want.Mem, 0)
			}
			at := uint32(len(want.Mem))
			want.Mem = append(want.Mem, s...)
			if y, n, e := outer.Lay(m, s); e != api.OK || n != at || !alike(y, want) || !dict.Formed(y) {
				t.Errorf("%.9q behind %d bytes: %d, %v, %q", s, had, n, e, y.Mem)
			}
		}
	}
}

// table: the words that build, with the acts that they stand for.
const table = `if: 1; else: 2 3; then: 3; begin: 4; again: 5; until: 6; while: 1; repeat: 5 3; do: 7; ?do: 8; loop: 9; +loop: 10; leave: 11; case: 12; of: 13; endof: 14; endcase: 15`

// builders: the table, by its words.
func builders(t testing.TB) map[string][]int {
	all := map[string][]int{}
	for row := range strings.SplitSeq(table, "; ") {
		word, numbers, _ := strings.Cut(row, ": ")
		for _, s := range strings.Fields(numbers) {
			all[word] = append(all[word], number(t, s))
		}
	}
	return all
}

func number(t testing.TB, s string) int {
	n := 0
	for _, c := range s {
		if c < '0' || c > '9' {
			t.Fatal(s)
		}
		n = 10*n + int(c-'0')
	}
	return n
}

// P12.1: each row of the table of acts, and no other word's; each answer is new memory.
func TestActs(t *testing.T) {
	all := builders(t)
	if len(all) != 17 {
		t.Fatal(len(all))
	}
	for word, want := range all {
		for range 2 {
			l := outer.Acts(word)
			if !slices.Equal(l, want) {
				t.Errorf("%s: %v; want %v", word, l, want)
			}
			l = l[:cap(l)]
			for i := range l {
				l[i] = 99
			}
		}
		for _, other := range []string{strings.ToUpper(word), word + " ", " " + word, word + word, word[1:], word[:len(word)-1] + "\x00"} {
			if l := outer.Acts(other); len(l) != 0 && all[other] == nil {
				t.Errorf("%q: %v", other, l)
			}
		}
	}
	for _, word := range strings.Fields("; : exit ['] ' to instance value constant variable defer buffer: ahead dup 1 ?leave recurse") {
		if l := outer.Acts(word); len(l) != 0 {
			t.Errorf("%s: %v", word, l)
		}
	}
	if l := outer.Acts(""); len(l) != 0 {
		t.Error(l)
	}
}

// P12.1: the examples of the chapter.
func TestExamples(t *testing.T) {
	leaves(t, dict.New(), ": sq dup * ; 7 sq", 49)
	if y := done(t, dict.New(), `: f if " yes" else " no" then type ; 0 f`); y.Out != "no" || len(y.Stack) != 0 {
		t.Error(y.Out, y.Stack)
	}
	leaves(t, dict.New(), "5 value v 6 to v v", 6)
	errs(t, dict.New(), ": x ;;", plenty, api.ErrWord)
	errs(t, dict.New(), "if", plenty, api.ErrControl)
}

// P12.1: a text with nothing in it, or notes alone, changes nothing and takes no step, with any fuel.
func TestNothing(t *testing.T) {
	for _, text := range []string{"", " ", "\n\t\x00 ", "( x )", "(\n)", "\\", "\\ x", "\\ : x\n( if )\\ y\n", strings.Repeat(" ", api.MaxText)} {
		for _, m := range []api.Machine{dict.New(), desk(), holding(as(atWork(desk(), disk), onDisk), many(api.MaxStack)...), wordy(desk(), api.MaxWords)} {
			for _, fuel := range []int{0, 1, api.MaxFuel} {
				if y, left, e := eval(t, m, text, fuel); e != api.OK || left != fuel || !alike(y, m) {
					t.Errorf("%.20q with %d: %v, %d left", text, fuel, e, left)
				}
			}
		}
	}
}

// P12.1: numbers interpreted take no step, whatever their base; those that are words are run.
func TestNumbers(t *testing.T) {
	for _, c := range []struct {
		text  string
		want  uint32
		steps int
	}{
		{"4", 4, 0}, {"-4", minus(4), 0}, {"007", 7, 0}, {"4294967295", minus(1), 0}, {"-4294967295", 1, 0}, {"h#1f", 31, 0}, {"H#1F", 31, 0}, {"h#-1f", minus(31), 0},
		{"o#17", 15, 0}, {"b#101", 5, 0}, {"d#19", 19, 0}, {"D#19", 19, 0}, {"h#ffffffff", minus(1), 0},
		{"0", 0, 1}, {"1", 1, 1}, {"2", 2, 1}, {"3", 3, 1}, {"-1", minus(1), 1}, {"bl", 32, 1}, {"00", 0, 0}, {"-2", minus(2), 0}, {"d#1", 1, 0}, {"-0", 0, 0},
	} {
		comes(t, desk(), c.text, holding(desk(), c.want), c.steps)
		want := lit(c.want)
		if c.steps > 0 {
			want = call(c.text)
		}
		compiled(t, desk(), c.text, want)
	}
	// The machine's base says how numbers are shown, not how they are read.
	comes(t, with(func(m *api.Machine) { m.Base = 16 }), "10", with(func(m *api.Machine) { m.Base, m.Stack = 16, cells(10) }), 0)
	for _, text := range []string{"4294967296", "1f", "h#", "h#g", "x#1", "o#8", "b#2", "--1", "+5", "5-", "1.5", "5,", "h#100000000", "#5", "0x10"} {
		errs(t, desk(), text, plenty, api.ErrWord)
		errs(t, desk(), ": x "+text+" ;", plenty, api.ErrWord)
	}
}

// P12.1: each first word is run by its name as layer 11 runs it, and its call is compiled.
func TestFirstWords(t *testing.T) {
	for n, p := range dict.Prims() {
		for _, l := range [][]uint32{nil, {4}, {0, 2}, {4, 2, 1}, {1, 4, 2, 0}, {0, 4, 2, 1, 1, 2, 3}} {
			for _, m := range []api.Machine{holding(desk(), l...), holding(as(atWork(desk(), disk), onDisk), l...)} {
				want, left, e := inner.Run(m, n, 50)
				y, got, f := eval(t, m, p.Name, 50)
				if f != e || got != left || !alike(y, want) {
					t.Errorf("%s on %v: %v, %v; want %v, %v", p.Name, l, y.Stack, f, want.Stack, e)
				}
			}
		}
		compiled(t, desk(), p.Name, op(api.OCall, uint32(n)))
		compiled(t, desk(), strings.ToUpper(p.Name), op(api.OCall, uint32(n)))
	}
}

// P12.1: each kind of word that is found, run and compiled.
func TestFound(t *testing.T) {
	comes(t, desk(), "k", holding(desk(), 7), 1)
	comes(t, desk(), "v", holding(desk(), 5), 1)
	comes(t, desk(), "var", holding(desk(), 4), 1)
	comes(t, holding(desk(), 6), "d", holding(desk(), 6, 6), 2)
	comes(t, as(desk(), onDisk), "c", holding(as(desk(), onDisk), 31), 1)
	comes(t, holding(desk(), 6), "twice TWICE Twice", holding(desk(), 48), 15)
	for n := wConst; n < deskWords; n++ {
		compiled(t, desk(), desk().Words[n].Name, op(api.OCall, uint32(n)))
	}
	// The newest of a name counts, and what was compiled ahead of it keeps to the elder one.
	leaves(t, desk(), ": x k ; 9 constant k : y k ; x y k", 7, 9, 9)
	leaves(t, desk(), ": dup 5 ; 1 dup twice", 1, 10)
	// A name that is a number's text is a word's first of all.
	leaves(t, desk(), "44 : 44 5 ; 44 1 constant 5 5 : 1 9 ; 1", 44, 5, 1, 9)
	// Great letters are small ones.
	leaves(t, desk(), ": SQ DUP * ; 3 sQ 5 VALUE Q 6 TO q Q", 9, 6)
}

// P12.1: a text is laid, shown or put on the stack, in both states.
func TestTexts(t *testing.T) {
	laid := func(l ...string) func(m *api.Machine) {
		return func(m *api.Machine) {
			for _, s := range l {
				for len(m.Mem)%4 != 0 {
					m.Mem = append(m.Mem, 0)
				}
				m.Mem = append(m.Mem, s...)
			}
		}
	}
	comes(t, desk(), `" abc"`, holding(with(laid("abc")), 8, 3), 0)
	comes(t, desk(), `" "`, holding(with(laid("")), 8, 0), 0)
	comes(t, desk(), `" a" " bcdef" " g"`, holding(with(laid("a", "bcdef", "g")), 8, 1, 12, 5, 20, 1), 0)
	comes(t, desk(), `" "(00 ff)A:;"`+" \n", holding(with(laid("\x00\xffA:;")), 8, 5), 0)
	print := func(m api.Machine, s string) api.Machine { m.Out += s; return m }
	comes(t, desk(), `." abc"`, print(with(laid("abc")), "abc"), 1)
	comes(t, desk(), `.( a"b)`, print(with(laid(`a"b`)), `a"b`), 1)
	comes(t, desk(), `." " .( )`, with(laid("", "")), 2)
	comes(t, holding(desk(), 1, 2), `." x"`, holding(print(with(laid("x")), "x"), 1, 2), 1)
	for _, c := range []struct {
		body string
		mem  []string
		code []api.Op
	}{
		{`" abc"`, []string{"abc"}, []api.Op{lit(8), lit(3)}},
		{`" "`, []string{""}, []api.Op{lit(8), lit(0)}},
		{`." abc"`, []string{"abc"}, []api.Op{lit(8), lit(3), call("type")}},
		{`.( a"b) " c"`, []string{`a"b`, "c"}, []api.Op{lit(8), lit(3), call("type"), lit(12), lit(1)}},
	} {
		want := with(laid(c.mem...))
		added(&want, api.Word{Name: "x", Node: -1, Kind: api.WColon, Code: c.code})
		comes(t, desk(), ": x "+c.body+" ;", want, 0)
	}
	// Each time that it is run, a definition shows the same memory.
	if y := done(t, desk(), `: x ." ab" ; x x`); y.Out != "abab" || len(y.Mem) != 10 {
		t.Error(y.Out, y.Mem)
	}
	// The word type is the first one, whatever else is called so.
	if y := done(t, desk(), `: type 2drop 5 ; ." ab" : x ." cd" ; x " e" type`); y.Out != "abcd" || !slices.Equal(y.Stack, cells(5)) {
		t.Error(y.Out, y.Stack)
	}
}

// P12.1: the words that make words, as Make does, under the name behind them.
func TestMakingWords(t *testing.T) {
	m := holding(atWork(desk(), bus), 8, 9)
	for _, c := range []struct {
		text     string
		by       int
		instance bool
	}{
		{"constant x", byConstant, false}, {"value x", byValue, false}, {"variable x", byVariable, false}, {"defer x", byDefer, false},
		{"buffer: x", byBuffer, false}, {"instance value x", byValue, true}, {"CONSTANT X", byConstant, false}, {"Instance\nVALUE ( y ) X", byValue, true},
	} {
		want, e := outer.Make(m, c.by, c.instance, "x")
		if e != api.OK {
			t.Fatal(c.text, e)
		}
		comes(t, m, c.text, want, 0)
	}
	leaves(t, desk(), "5 constant x x x", 5, 5)
	leaves(t, desk(), "variable x x x @ 9 x ! x @ variable y y", 8, 0, 9, 12)
	leaves(t, desk(), "3 buffer: x x here 5 buffer: y y here", 8, 11, 12, 17)
	leaves(t, desk(), "5 value x x 6 to x x : t to x ; 7 t x", 5, 6, 7)
	leaves(t, desk(), "defer x ' 2* to x 4 x ' dup to x x : t to x ; ' + t x", 16)
	errs(t, desk(), "defer x x", plenty, api.ErrRet)
	// Names may be any, also those that the text reads in another way where they stand alone.
	for _, name := range []string{":", ";", "if", "constant", "'", "5", "dup", "value", "to", "exit", "[']", "instance", "x(y", "\\x", ".((", "~"} {
		leaves(t, desk(), "9 constant "+name+" ' "+name+" execute", 9)
		leaves(t, desk(), "9 value "+name+" 8 to "+name+" : "+name+" 7 ; ' "+name+" execute : t ['] "+name+" ; t execute", 7, 7)
	}
}

// P12.1: cells of instances, which begin with what was taken.
func TestInstanceValues(t *testing.T) {
	y := done(t, desk(), `5 1 " tty" new-device 7 instance value a 8 INSTANCE value b : open a b ; : set to b ; finish-device 6 value a`)
	n := len(desk().Tree)
	if len(y.Tree) != n+1 || !slices.Equal(y.Tree[n].Cells, cells(7, 8)) || y.Node != 0 {
		t.Fatal(y.Tree, y.Node)
	}
	for i, w := range []api.Word{
		{Name: "a", Node: n, Kind: api.WInst}, {Name: "b", Node: n, Kind: api.WInst, N: 1},
		{Name: "open", Node: n, Kind: api.WColon, Code: []api.Op{op(api.OCall, deskWords), op(api.OCall, deskWords+1)}},
		{Name: "set", Node: n, Kind: api.WColon, Code: []api.Op{op(api.OTo, deskWords+1)}}, {Name: "a", Node: 0, Kind: api.WValue, N: 6},
	} {
		if !alikeWord(later(y)[i], w) {
			t.Errorf("%v; want %v", later(y)[i], w)
		}
	}
	y.Insts[0] = api.Inst{Node: n, Parent: onDisk, Cells: cells(7, 8)}
	errs(t, y, "open", plenty, api.ErrSelf)
	y.Self = 0
	leaves(t, y, "open 4 set open 5 to b b", 7, 8, 7, 4, 5)
	leaves(t, y, `9 " set" my-self $call-method open`, 7, 9)
}

// P12.1: ' and to, with each kind of word.
func TestTickAndTo(t *testing.T) {
	for n, w := range desk().Words {
		comes(t, desk(), "' "+w.Name, holding(desk(), uint32(n)), 0)
		compiled(t, desk(), "['] "+w.Name, lit(uint32(n)))
		compiled(t, desk(), "to "+w.Name, op(api.OTo, uint32(n)))
		m := holding(as(desk(), onDisk), 4, 3)
		want, e := inner.To(m, n)
		y, left, f := eval(t, m, "to "+w.Name, 0)
		if f != e || left != 0 || !alike(y, want) {
			t.Errorf("to %s: %v; want %v", w.Name, f, e)
		}
	}
	comes(t, holding(desk(), 4, 9), "to v", with(func(m *api.Machine) { m.Stack = cells(4); m.Words[wValue].N = 9 }), 0)
	comes(t, holding(desk(), 4, 9), "to d", with(func(m *api.Machine) { m.Stack = cells(4); m.Words[wDefer].N = 9 }), 0)
	comes(t, holding(as(desk(), onDisk), 9), "to c", with(func(m *api.Machine) { m.Self, m.Insts[onDisk].Cells = onDisk, cells(30, 9) }), 0)
}

// P12.1: what each word puts that compiles, and the code of each row of the table.
func TestCompiled(t *testing.T) {
	compiled(t, desk(), "")
	compiled(t, desk(), "( x ) \\ y\n")
	compiled(t, desk(), "5 dup twice", lit(5), call("dup"), op(api.OCall, wColon))
	compiled(t, desk(), "exit exit", op(api.OExit, 0), op(api.OExit, 0))
	compiled(t, desk(), "['] dup to v", lit(uint32(first("dup"))), op(api.OTo, wValue))
	compiled(t, desk(), "if 5 then", op(api.OZero, 2), lit(5))
	compiled(t, desk(), "if 5 else 6 then", op(api.OZero, 3), lit(5), op(api.OBranch, 4), lit(6))
	compiled(t, desk(), "begin 5 again", lit(5), op(api.OBranch, 0))
	compiled(t, desk(), "5 begin 6 until", lit(5), lit(6), op(api.OZero, 1))
	compiled(t, desk(), "begin 5 while 6 repeat", lit(5), op(api.OZero, 4), lit(6), op(api.OBranch, 0))
	compiled(t, desk(), "do 5 loop", op(api.ODo, 3), lit(5), op(api.OLoop, 1))
	compiled(t, desk(), "?do 5 +loop", op(api.OQDo, 3), lit(5), op(api.OPlus, 1))
	compiled(t, desk(), "do leave ?do leave loop leave +loop", op(api.ODo, 7), op(api.OLeave, 7), op(api.OQDo, 5), op(api.OLeave, 5), op(api.OLoop, 3), op(api.OLeave, 7), op(api.OPlus, 1))
	compiled(t, desk(), "case 5 of 6 endof 7 of endof 8 endcase", lit(5), op(api.OOf, 4), lit(6), op(api.OBranch, 9), lit(7), op(api.OOf, 7), op(api.OBranch, 9), lit(8), op(api.ODrop, 0))
	compiled(t, desk(), "CASE EndCase", op(api.ODrop, 0))
	// What is open lies in lists of its own, so that it may cross.
	compiled(t, desk(), "if begin then until", op(api.OZero, 1), op(api.OZero, 1))
	// Drafts begin empty.
	y := done(t, desk(), ": x 5 if 6 then ; : y 7 ;")
	if w := later(y)[1]; !alikeWord(w, api.Word{Name: "y", Node: -1, Kind: api.WColon, Code: []api.Op{lit(7)}}) {
		t.Error(w)
	}
}

// P12.1: every row of up to three words of the table is built as layer 10 builds it by the acts, or refused with its error.
func TestRowsOfActs(t *testing.T) {
	all := builders(t)
	words := slices.Sorted(maps.Keys(all))
	row := []string{}
	var each func(d api.Draft, rest int)
	each = func(d api.Draft, rest int) {
		text := ": x " + strings.Join(row, " ") + " ;"
		l, want := code.Finish(d)
		y, _, e := eval(t, dict.New(), text, 0)
		if e != want || e == api.OK && !slices.Equal(y.Words[api.Prims].Code, l) {
			t.Errorf("%s: %v; want %v", text, e, want)
		}
		if rest == 0 {
			return
		}
		for _, word := range words {
			next, e := d, api.OK
			for _, act := range all[word] {
				if e == api.OK {
					next, e = code.Act(next, act)
				}
			}
			row = append(row, word)
			if e == api.OK {
				each(next, rest-1)
			} else {
				errs(t, dict.New(), ": x "+strings.Join(row, " ")+" ;", 0, e)
			}
			row = row[:len(row)-1]
		}
	}
	each(api.Draft{}, 3)
}

// P12.1: a colon word's device is the one that is at work where it ends; the words of texts run there.
func TestDevices(t *testing.T) {
	y := done(t, dict.New(), `: a ; 0 " x" new-device : b ; 0 " y" new-device : c ; variable v finish-device : d ; finish-device : e ; finish-device : f ; defer g`)
	var nodes []int
	for _, w := range y.Words[api.Prims:] {
		nodes = append(nodes, w.Node)
	}
	if !slices.Equal(nodes, []int{-1, 1, 2, 2, 1, 0, -1, -1}) || y.Node != -1 {
		t.Error(nodes, y.Node)
	}
	y = done(t, dict.New(), `31 1 " pci" new-device 5 encode-int " reg" property " abc" encode-string " s" property`)
	if l := y.Tree[1].Props; len(l) != 2 || l[0].Name != "reg" || string(l[0].Data) != "\x00\x00\x00\x05" || string(l[1].Data) != "abc\x00" {
		t.Error(l)
	}
}
