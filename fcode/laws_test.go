package fcode_test

import (
	"fmt"
	"math"
	"slices"
	"strings"
	"testing"

	"tinder/api"
	"tinder/dict"
	"tinder/fcc"
	"tinder/fcode"
	"tinder/head"
	"tinder/outer"
	"tinder/token"
)

// held: does Eval answer what the model comes to, of a body that may be any bytes? The error.
func held(t *testing.T, m api.Machine, body []byte, wide bool, fuel int) api.Errno {
	t.Helper()
	x := model{m: twin(m), fuel: fuel}
	l, want := token.Decode(body, wide)
	if want == api.OK {
		want = x.eval(l)
	}
	y, left, e := eval(t, m, headed(t, body, wide), fuel)
	if e != want {
		t.Fatalf("%s (%x) on %v with %d steps: %v; want %v", told(l), body, m.Stack, fuel, e, want)
	}
	if e == api.OK && (left != x.fuel || !alike(y, x.m)) {
		t.Fatalf("%s (%x) on %v with %d steps: %d left, %v, %v, %v; want %d left, %v, %v, %v", told(l), body, m.Stack, fuel, left, y.Stack, later(y), y.Codes, x.fuel, x.m.Stack, later(x.m), x.m.Codes)
	}
	return e
}

// heldOf: likewise of tokens.
func heldOf(t *testing.T, m api.Machine, l []api.Tok, wide bool, fuel int) api.Errno {
	t.Helper()
	b, e := token.Encode(l, wide)
	if e != api.OK {
		t.Fatalf("%s: %v", told(l), e)
	}
	return held(t, m, b, wide, fuel)
}

// rows: each row of at most so many of the pieces.
func rows[T any](pieces []T, most int, do func(l []T)) {
	var add func(l []T)
	add = func(l []T) {
		do(l)
		if len(l) < most {
			for _, p := range pieces {
				add(append(slices.Clip(l), p))
			}
		}
	}
	add(nil)
}

// P16.1: all short rows of tokens come to what the model comes to.
func TestAllShortRows(t *testing.T) {
	for s, most := range map[string]int{
		`b5=800 b6"x"=801 b6"X"=802 b7 b8 ba c0 c2 47 10=5 33 0`:                                        4,
		`b5=800 b7 c2 800 11=800 c3=802 14+1 b2 ff`:                                                     4,
		`b5=800 b6""=808 ca"y"=fff b7 b8 b9 ba bc bd bb c0 c2 cc 12"a" 11=47 c3=804 b1 13 13-1 1b c4 0`: 3,
		`b5=800 c0 b7 b8 c2 cc 800`:                                                                     5,
	} {
		ends := map[api.Errno]int{}
		rows(toks(s), most, func(l []api.Tok) {
			ends[heldOf(t, holding(atWork(desk(), bus), 4, 2), append(slices.Clip(l), api.Tok{}), true, 9)]++
		})
		if ends[api.OK] < 50 || ends[api.ErrToken] < 50 || ends[api.ErrControl] < 50 {
			t.Error(s, ends)
		}
	}
}

// P16.1: all short definitions come to what the model comes to, and so does what is run of them.
func TestAllShortDefinitions(t *testing.T) {
	n := 0
	for s, most := range map[string]int{
		"13+1 13-1 14+1 14-1 15 16 17 18 1b 1c b1 b2 c4 c5 c6 33 cc": 3,
		"14 13 b2 47": 5, "b1 14 13-1 b2": 6, "b1 14-1 46": 5, "17 15 1b 19": 6, "18 16 1b a6": 5, "c4 1c c6 c5": 6, "b1 13-1 c4 c5 14 b2": 4, `10=5 11=47 12"a" c3=802 33 801`: 4,
	} {
		rows(toks(s), most, func(l []api.Tok) {
			l = append(append(toks(`b6"x"=800 b7`), l...), ended("c2 800")...)
			if heldOf(t, holding(desk(), 4, 2, 1, 4), l, true, 60) == api.OK {
				n++
			}
		})
	}
	if n < 1000 {
		t.Errorf("only %d came through", n)
	}
}

// P16.1: random rows of tokens on random machines, and such of which a little is changed, come to what the model comes to; what comes of them is formed (eval asks that).
func TestAgainstModel(t *testing.T) {
	c := newClerk(16)
	ends := map[api.Errno]int{}
	for range 5000 {
		l := c.row()
		ends[heldOf(t, c.machine(), l, c.seldom(2), c.fuel())]++
		if c.seldom(2) {
			ends[heldOf(t, c.machine(), c.spoilt(l), c.seldom(2), c.fuel())]++
		}
	}
	for _, e := range []api.Errno{
		api.OK, api.ErrUnder, api.ErrOver, api.ErrRoom, api.ErrFuel, api.ErrRet, api.ErrControl, api.ErrWord, api.ErrToken, api.ErrOut, api.ErrNode, api.ErrSelf, api.ErrMany,
	} {
		if ends[e] < 8 {
			t.Errorf("%v ended a row only %d times: %v", e, ends[e], ends)
		}
	}
	if ends[api.OK] < 1000 {
		t.Errorf("only %d rows came through", ends[api.OK])
	}
}

// P16.1: bodies of which some bytes are changed, and such of any bytes, come to what the model comes to.
func TestAnyBytes(t *testing.T) {
	c := newClerk(161)
	ends := map[api.Errno]int{}
	for range 4000 {
		b, _ := token.Encode(c.row(), true)
		for range 1 + c.r.Intn(3) {
			b[c.r.Intn(len(b))] = byte(c.r.Intn(256))
		}
		ends[held(t, c.machine(), b, true, c.fuel())]++
		b = make([]byte, c.r.Intn(30))
		c.r.Read(b)
		const some = "\x00\x08\x00\xb5\x10\x11\x12\x01\x47\xa6\xb7\xc2\xba\xc0\x14\x13\xb1\xb2\xff\x02\x03"
		for i := range b {
			if c.seldom(2) {
				b[i] = some[c.r.Intn(len(some))]
			}
		}
		ends[held(t, c.machine(), b, c.seldom(2), c.fuel())]++
	}
	if ends[api.OK] < 200 || ends[api.ErrToken] < 800 || ends[api.ErrControl] < 200 {
		t.Error(ends)
	}
}

// asSource, P16.2: does a text that is compiled come to what layer 12 makes of it? Whether it is compiled, and the error.
func asSource(t *testing.T, m api.Machine, text string, fuel int) (bool, api.Errno) {
	t.Helper()
	p, e := fcc.Compile(text)
	if e != api.OK {
		return false, e
	}
	if len(m.Words) != api.Prims {
		t.Fatalf("%d words", len(m.Words))
	}
	want, wantLeft, wantE := outer.Eval(m, text, fuel)
	y, left, e := eval(t, m, p, fuel)
	if e != wantE || left != wantLeft || !alikeBut(y, want) {
		t.Fatalf("%q on %v with %d steps: %v, %d left, %v, %v; interpreted: %v, %d left, %v, %v", text, m.Stack, fuel, e, left, y.Stack, later(y), wantE, wantLeft, want.Stack, later(want))
	}
	if e != api.OK {
		return true, e
	}
	// Of Codes: the words have those that layer 15 gave them, all others are as they were.
	codes := slices.Clone(m.Codes)
	for i := range y.Words[api.Prims:] {
		if i == len(codes) {
			codes = append(codes, 0)
		}
		codes[i] = api.Prims + i
	}
	if !slices.Equal(y.Codes, codes) {
		t.Fatalf("%q: codes %v; want %v", text, y.Codes, codes)
	}
	return true, e
}

// P16.2: random texts on random machines.
func TestAsItsSource(t *testing.T) {
	c := newClerk(162)
	ends := map[api.Errno]int{}
	n := 0
	for range 7000 {
		if ok, e := asSource(t, c.bare(), c.text(), c.fuel()); ok {
			ends[e]++
			n++
		}
	}
	for _, e := range []api.Errno{
		api.OK, api.ErrUnder, api.ErrOver, api.ErrRoom, api.ErrFuel, api.ErrRet, api.ErrWord, api.ErrOut, api.ErrNode, api.ErrSelf, api.ErrMany, api.ErrThrow, api.ErrAddr, api.ErrMethod,
	} {
		if ends[e] < 5 {
			t.Errorf("%v ended a text only %d times: %v", e, ends[e], ends)
		}
	}
	if ends[api.OK] < 1200 || n < 5500 {
		t.Errorf("of %d that were compiled only %d came through", n, ends[api.OK])
	}
}

// P16.2: all short texts of a few words.
func TestShortTextsAsTheirSource(t *testing.T) {
	n := 0
	for text, most := range map[string]int{
		": ; x dup 5 if then to '":                              4,
		": a begin while repeat until dup ; a 5":                4,
		"instance value constant defer buffer: x 4 to dup exit": 4,
	} {
		rows(strings.Fields(text), most, func(l []string) {
			m := holding(atWork(dict.New(), 0), 4)
			for _, text := range []string{strings.Join(l, " "), ": w " + strings.Join(l, " ") + " ; 0 w"} {
				if ok, _ := asSource(t, m, text, 30); ok {
					n++
				}
			}
		})
	}
	if n < 2000 {
		t.Errorf("only %d are compiled", n)
	}
}

// P16.2: texts with each of layer 9's words, each kind of definition and each way to build.
func TestTextsAsTheirSource(t *testing.T) {
	texts := []string{
		"", "5", `." hi" .( ho) " ha" type`, ": sq dup * ; 7 sq", "5 value v 6 to v v", ": f if 1 else 2 then ; 0 f 1 f", ": w begin dup while 1 - repeat ; 4 w", ": k case 1 of 10 endof 2 of 20 endof 30 swap endcase ; 1 k 2 k 3 k",
		": c 0 5 0 do i + i 3 = if leave then loop ; c", ": c 5 0 do 3 0 do i j loop 2 +loop ; c", ": d 5 5 ?do i loop 7 ; d", ": u begin 1 - dup 0= until ; 5 u", ": e 5 exit 6 ; e", ": bad 5 throw ; ' bad catch", ": b begin again ; b", ": r 1 >r r@ r> ; r",
		"variable x 7 x ! x @", "9 buffer: y here y", "defer d ' dup to d 4 d", ": t ['] dup execute ; 3 t", ": dup dup dup ; 1 dup", ": type 2drop ; .\" x\" \" y\" type", ": x ; : x x x ; : x x x ; x", "5 constant 5 5 6 constant 5 5", `: m 5 ; " m" my-self $call-method`,
		`0 " dev" new-device 5 instance value z : m z 6 to z ; 1 encode-int " reg" property finish-device`, ": l 256 0 do i drop loop ; l", ": x " + strings.Repeat("5 ", 256) + ";", ": x " + strings.Repeat("5 ", 257) + ";", strings.Repeat(": a ; ", 529), strings.Repeat(": a ; ", 530), strings.Repeat("7 ", 64), strings.Repeat("7 ", 65),
		strings.Repeat(": a ; ", 529) + ": a begin again", `: q " ` + strings.Repeat("z", 255) + `" type ; q q`, "36 base! 35 . 2 base! 5 u. -1 .", "1 2 3 4 5 6 2rot depth",
		": m my-self ; : n my-parent ; " + `" n" 3 ' $call-method catch`, "111 0 do", ": x 5 to dup ; x", ": x 5 to dup ; ' x catch", "' i to i",
	}
	for _, p := range dict.Prims() {
		texts = append(texts, p.Name, "1 2 3 "+p.Name, ": x "+p.Name+" ; 4 2 x", "8 4 4 1 ' "+p.Name+" catch", ": "+p.Name+" "+p.Name+" 5 ; 4 2 "+p.Name)
	}
	c := newClerk(163)
	ends := map[api.Errno]int{}
	for _, text := range texts {
		for range 6 {
			for _, m := range []api.Machine{dict.New(), c.bare()} {
				if ok, e := asSource(t, m, text, pick(c, 0, 1, 5, plenty, plenty)); ok {
					ends[e]++
				}
			}
		}
	}
	if ends[api.OK] < 1000 || ends[api.ErrLong] == 0 || ends[api.ErrMany] == 0 {
		t.Error(ends)
	}
}

// P16.3: what stands behind the first 0 or ff, or behind the length, counts for nothing, nor which of the two it is.
func TestNothingBetween(t *testing.T) {
	c := newClerk(164)
	ends := map[api.Errno]int{}
	for range 900 {
		l := c.row()
		m, fuel, wide := c.machine(), c.fuel(), c.seldom(2)
		end := slices.IndexFunc(l, func(x api.Tok) bool { return x.Code == 0 || x.Code == 0xff })
		bodyOf := func(l []api.Tok) []byte {
			b, e := token.Encode(l, wide)
			if e != api.OK {
				t.Fatalf("%s: %v", told(l), e)
			}
			return b
		}
		want, wantLeft, wantE := eval(t, m, headed(t, bodyOf(l[:end+1]), wide), fuel)
		ends[wantE]++
		same := func(p []byte) {
			t.Helper()
			if y, left, e := eval(t, m, p, fuel); e != wantE || left != wantLeft || !alike(y, want) {
				t.Fatalf("%x: %v, %v; of %s: %v, %v", p, e, y.Stack, told(l), wantE, want.Stack)
			}
		}
		for _, code := range []int{0, 0xff} {
			all := append(slices.Clone(l[:end]), api.Tok{Code: code})
			same(headed(t, bodyOf(all), wide))
			for range 3 {
				tail := c.row()
				if c.seldom(2) {
					tail = []api.Tok{c.any()}
				}
				p := headed(t, bodyOf(append(slices.Clone(all), tail...)), wide)
				same(p)
				junk := make([]byte, c.r.Intn(20))
				c.r.Read(junk)
				same(append(p, junk...))
			}
			// Where the tokens can't be read, it counts.
			broken := append(bodyOf(all), pick(c, "\x05", "\x12\x09a", "\x11", "\x0f", "\xb5\x00\x00")...)
			if _, _, e := eval(t, m, headed(t, broken, wide), fuel); e != api.ErrToken {
				t.Fatalf("%x: %v", broken, e)
			}
		}
	}
	if ends[api.OK] < 150 || ends[api.ErrToken] < 10 || ends[api.ErrUnder] < 10 || ends[api.ErrControl] < 10 {
		t.Error(ends)
	}
}

// P16.3: bytes behind the length, as many as there may be.
func TestBehindTheLength(t *testing.T) {
	p := program(t, ended("10=5 10=6 1e"))
	for _, n := range []int{1, 2, 100, api.MaxFCode - len(p)} {
		for _, x := range []string{"\x00", "\xff", "\x46", "\x05"} {
			y, left, e := eval(t, desk(), append(slices.Clone(p), strings.Repeat(x, n)...), 9)
			if e != api.OK || left != 8 || !slices.Equal(y.Stack, cells(11)) {
				t.Errorf("%d times %x: %v, %v", n, x, e, y.Stack)
			}
		}
	}
	if _, _, e := eval(t, desk(), append(slices.Clone(p), make([]byte, api.MaxFCode-len(p)+1)...), 9); e != api.ErrHead {
		t.Error(e)
	}
}

// spared: a list like l with spare room behind it, which is marked.
func spared[T any](l []T, mark T) []T {
	all := append(slices.Clone(l), mark, mark)
	return all[:len(l)]
}

// sparedMachine: m with marked spare room behind each of its lists.
func sparedMachine(m api.Machine) api.Machine {
	m = twin(m)
	m.Stack, m.Mem, m.Codes = spared(m.Stack, 77), spared(m.Mem, 77), spared(m.Codes, 77)
	m.Words, m.Tree, m.Insts = spared(m.Words, api.Word{N: 77}), spared(m.Tree, api.Node{Parent: 77}), spared(m.Insts, api.Inst{Node: 77})
	for i := range m.Words {
		m.Words[i].Code = spared(m.Words[i].Code, api.Op{N: 77})
	}
	for i := range m.Tree {
		d := &m.Tree[i]
		d.Unit, d.Cells, d.Props = spared(d.Unit, 77), spared(d.Cells, 77), spared(d.Props, api.Prop{Name: "mark"})
		for k := range d.Props {
			d.Props[k].Data = spared(d.Props[k].Data, 77)
		}
	}
	for i := range m.Insts {
		m.Insts[i].Cells = spared(m.Insts[i].Cells, 77)
	}
	return m
}

// all: the list with its spare room.
func all[T any](l []T) []T { return l[:cap(l)] }

// opened: m with the spare room of each of its lists laid open, told as a text.
func opened(m api.Machine) string {
	var b strings.Builder
	fmt.Fprint(&b, all(m.Stack), all(m.Mem), all(m.Codes), m.Base, m.Node, m.Self, m.Out)
	for _, w := range all(m.Words) {
		fmt.Fprintf(&b, "%q %d %d %d %v ", w.Name, w.Node, w.Kind, w.N, all(w.Code))
	}
	for _, d := range all(m.Tree) {
		fmt.Fprintf(&b, "%q %v %d %v ", d.Name, all(d.Unit), d.Parent, all(d.Cells))
		for _, p := range all(d.Props) {
			fmt.Fprintf(&b, "%q %v ", p.Name, all(p.Data))
		}
	}
	for _, x := range all(m.Insts) {
		fmt.Fprintf(&b, "%d %d %q %v ", x.Node, x.Parent, x.Args, all(x.Cells))
	}
	return b.String()
}

// overwrite: each number of a list, spare room and all.
func overwrite[T uint32 | int | byte](l []T) {
	for i := range all(l) {
		all(l)[i] ^= 1
	}
}

// scribble: writes over all that m's lists hold, spare room and all.
func scribble(m api.Machine) {
	for i, w := range all(m.Words) {
		for k := range all(w.Code) {
			all(w.Code)[k].N ^= 1
		}
		all(m.Words)[i].N ^= 1
	}
	for i, d := range all(m.Tree) {
		overwrite(d.Unit)
		overwrite(d.Cells)
		for k, p := range all(d.Props) {
			overwrite(p.Data)
			all(d.Props)[k].Name += "!"
		}
		all(m.Tree)[i].Parent ^= 1
	}
	for i, x := range all(m.Insts) {
		overwrite(x.Cells)
		all(m.Insts)[i].Parent ^= 1
	}
	overwrite(m.Stack)
	overwrite(m.Codes)
	overwrite(m.Mem)
}

// P1: what is handed in is left as it was, spare room and all, and shares no memory with a machine that is answered; nothing is kept from call to call.
func TestNothingIsChangedOrShared(t *testing.T) {
	c := newClerk(165)
	start := holding(as(atWork(desk(), bus), onDisk), 1, 2)
	list := [][]api.Tok{nil}
	for _, s := range []string{
		"", "cc", "10=5", "47", "11=47", "10=5 c3=802", "11=801 c3=804", "10=6 c3=805", `12"ab"`, `12"ab" 90`, "b5=800 b7 c2", `b6"x"=800 b7 10=5 47 c2`, `b6"x"=800 b7 12"ab" 90 10=5 14 10=6 13 b2 10=7 b2 c2 800`, "b5=801 ba", "b5=fff b8", "b5=800 b9", "b5=800 bc", "b5=800 bd",
		"c0 b5=800 b8", "46", "46 46 46", "800", "b5=800 b7", `10=5 b5=808 b8 10=0 12"q" 11f 10=6 c0 b6"z"=809 b8 a6 111 12"p" 110 127 808 c3=808`,
	} {
		list = append(list, ended(s))
	}
	for range 150 {
		list = append(list, c.row())
	}
	for i, l := range list {
		m := sparedMachine(start)
		if i >= 26 {
			m = sparedMachine(c.machine())
		}
		p := spared(program(t, l), 77)
		kept, keptProgram := opened(m), slices.Clone(all(p))
		one, _, e := fcode.Eval(m, p, 200)
		two, _, _ := fcode.Eval(m, p, 200)
		if opened(m) != kept || !slices.Equal(all(p), keptProgram) {
			t.Errorf("%s changes its arguments", told(l))
		}
		if !alike(one, two) {
			t.Errorf("%s answers otherwise the second time", told(l))
		}
		answered := opened(two)
		scribble(one)
		if opened(m) != kept || !slices.Equal(all(p), keptProgram) {
			t.Errorf("%s: its answer shares memory with its arguments", told(l))
		}
		scribble(m)
		overwrite(p)
		if opened(two) != answered {
			t.Errorf("%s: two answers share memory, or an argument is kept", told(l))
		}
		if e != api.OK && !isNone(two) {
			t.Errorf("%s: beside %v: %v", told(l), e, two)
		}
	}
}

// P1: whatever is handed in, the call ends and doesn't panic.
func TestAnyArguments(t *testing.T) {
	c := newClerk(166)
	programs := append(somePrograms(t), program(t, ended("b5=800 b7"+strings.Repeat(" b1", 500))), program(t, ended("b5=800 b7"+strings.Repeat(" 14", 500))), program(t, ended("b5=800 b7"+strings.Repeat(" c4", 500)+" c2")))
	for range 100 {
		b := make([]byte, c.r.Intn(60))
		c.r.Read(b)
		programs = append(programs, b, headed(t, b, true), program(t, c.row()))
		p, _ := head.Make(b, false)
		p[c.r.Intn(len(p))]++
		programs = append(programs, p)
	}
	for _, m := range append(notFormed(), desk(), holding(desk(), many(api.MaxStack)...), wordy(desk(), api.MaxWords)) {
		for _, p := range programs {
			for _, fuel := range []int{math.MinInt, 0, 50, math.MaxInt} {
				fcode.Eval(m, p, fuel)
			}
		}
	}
}
