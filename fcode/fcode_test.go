package fcode_test

import (
	"fmt"
	"math"
	"slices"
	"strings"
	"testing"

	"tinder/api"
	"tinder/dict"
	"tinder/fcc"
	"tinder/inner"
)

// same: a change that is none.
func same(*api.Machine) {}

// P16.1: the chapter's examples.
func TestExamples(t *testing.T) {
	p, e := fcc.Compile(": sq dup * ; 7 sq")
	if e != api.OK {
		t.Fatal(e)
	}
	y, left, e := eval(t, dict.New(), p, 100)
	if e != api.OK || left != 95 || !slices.Equal(y.Stack, cells(49)) || !slices.Equal(y.Codes, []int{111}) {
		t.Error(y.Stack, y.Codes, left, e)
	}
	for _, c := range []struct {
		program []byte
		want    api.Errno
	}{
		{[]byte{0xf1, 8, 0, 0, 0, 0, 0, 8}, api.ErrToken},
		{[]byte{0xf1, 8, 0, 0x47, 0, 0, 0, 10, 0x47, 0}, api.ErrUnder},
		{[]byte{0xf1, 8, 0, 0xb7, 0, 0, 0, 10, 0xb7, 0}, api.ErrToken},
	} {
		if _, _, e := eval(t, dict.New(), c.program, 100); e != c.want {
			t.Errorf("%x: %v; want %v", c.program, e, c.want)
		}
	}
}

// P16.1: a program of its end alone changes nothing, on any machine and with any fuel.
func TestNothing(t *testing.T) {
	for _, end := range []int{0, 0xff} {
		for _, fuel := range []int{0, 1, 77, api.MaxFuel} {
			for _, m := range []api.Machine{dict.New(), desk(), holding(desk(), many(api.MaxStack)...), wordy(desk(), api.MaxWords), sized(desk(), api.MaxMem), as(atWork(desk(), bus), onDisk)} {
				y, left, e := eval(t, m, program(t, []api.Tok{{Code: end}}), fuel)
				if e != api.OK || left != fuel || !alike(y, m) {
					t.Error(end, fuel, left, e)
				}
			}
		}
	}
}

// P16.1: each of the first words is run by its code, with a step; compiling, it is an OCall.
func TestFirstWords(t *testing.T) {
	for xt, p := range dict.Prims() {
		for _, m := range []api.Machine{desk(), holding(desk(), 1, 2), holding(atWork(desk(), disk), 3, 0, 4, 2), holding(as(desk(), onDisk), 4, 2, 1, 4, 1, 0, 1)} {
			for _, fuel := range []int{0, 1, 2, 100} {
				want, wantLeft, wantE := inner.Run(m, xt, fuel)
				y, left, e := eval(t, m, program(t, []api.Tok{{Code: p.Code}, {}}), fuel)
				if e != wantE || left != wantLeft || !alike(y, want) {
					t.Errorf("%s: %v, %v, %d left; want %v, %v, %d left", p.Name, e, y.Stack, left, wantE, want.Stack, wantLeft)
				}
			}
		}
		compiled(t, desk(), fmt.Sprintf("%x", p.Code), op(api.OCall, uint32(xt)))
	}
}

// P16.1: words that were bound are run by their codes, whatever kind they are of; compiling, they are OCalls.
func TestBoundWords(t *testing.T) {
	m := holding(as(desk(), onDisk), 4)
	for code, want := range map[int][]uint32{0x801: {4, 7}, 0x802: {4, 5}, 0x803: {4, 4}, 0x804: {4, 4}, 0x805: {4, 31}, 0x806: {8}, 0x807: {4, 4}} {
		steps := map[int]int{0x804: 2, 0x806: 5}[code]
		comes(t, m, fmt.Sprintf("%x", code), max(1, steps), func(m *api.Machine) { m.Stack = want })
		compiled(t, m, fmt.Sprintf("%x", code), op(api.OCall, uint32(m.Codes[code-0x800])))
	}
	// The last code of all.
	m = with(func(m *api.Machine) {
		for len(m.Codes) < 2048 {
			m.Codes = append(m.Codes, -1)
		}
		m.Codes[2047] = wConst
	})
	leaves(t, m, "fff", 7)
	compiled(t, m, "fff 11=fff c3=fff", op(api.OCall, wConst), lit(wConst), op(api.OTo, wConst))
	// That nobody is bound behind what Codes have is as if there were -1.
	for _, m := range []api.Machine{dict.New(), desk()} {
		for _, code := range []int{0x800, 0x808, 0x809, 0x80a, 0xffe, 0xfff} {
			errs(t, m, fmt.Sprintf("%x", code), api.ErrToken)
			errs(t, m, fmt.Sprintf(`b5=801 b7 %x c2`, code), api.ErrToken)
		}
	}
}

// special: the codes that the chapter says something of, with the error of each where it stands alone: interpreting, and compiling; OK where there is none.
func special() map[int][2]api.Errno {
	all := map[int][2]api.Errno{}
	say := func(outside, inside api.Errno, codes ...int) {
		for _, c := range codes {
			all[c] = [2]api.Errno{outside, inside}
		}
	}
	say(api.OK, api.ErrControl, 0x00, 0xff)
	say(api.OK, api.OK, 0x10, 0x11, 0x12, 0xcc)
	say(api.ErrWord, api.OK, 0xc3)
	say(api.ErrControl, api.OK, 0x33, 0xc2)
	// Of these that build, some are refused by layer 10 where nothing is open, and the others leave something open.
	say(api.ErrControl, api.ErrControl, 0x13, 0x14, 0x15, 0x16, 0x17, 0x18, 0x1b, 0x1c, 0xb1, 0xb2, 0xc4, 0xc5, 0xc6)
	say(api.ErrToken, api.ErrControl, 0xb5, 0xb6, 0xca, 0xc0)
	say(api.ErrToken, api.ErrToken, 0xb7, 0xb8, 0xb9, 0xba, 0xbc, 0xbd)
	return all
}

// alone: a token of that code, with something behind it that may stand there.
func alone(code int) api.Tok {
	x := api.Tok{Code: code}
	switch code {
	case 0x11, 0xc3:
		x.N = 0x47
	case 0xb5, 0xb6, 0xca:
		x.N = 0x800
	}
	return x
}

// P16.1: each code there is, interpreting and compiling.
func TestEachCode(t *testing.T) {
	said := special()
	for code := range 0x1000 {
		if code > 0 && code < 0x10 {
			continue
		}
		x := alone(code)
		want, ok := said[code]
		if !ok {
			if _, is := dict.Code(dict.New(), code); is {
				continue
			}
			want = [2]api.Errno{api.ErrToken, api.ErrToken}
		}
		errsOf(t, dict.New(), []api.Tok{x, {}}, plenty, want[0])
		inside := []api.Tok{{Code: 0xb5, N: 0xfff}, {Code: 0xb7}, x, {Code: 0xc2}, {}}
		if code == 0xc2 {
			inside = slices.Delete(inside, 3, 4)
		}
		errsOf(t, dict.New(), inside, plenty, want[1])
		// Behind an end all of them count for nothing.
		errsOf(t, dict.New(), []api.Tok{{}, x}, plenty, api.OK)
		errsOf(t, dict.New(), []api.Tok{{Code: 0xff}, x}, plenty, api.OK)
	}
}

// P16.1: a number, without a step.
func TestNumber(t *testing.T) {
	for _, n := range []uint32{0, 1, 0x10, 0xff, 0x100, 0xffff, 1 << 31, math.MaxUint32, 0xff00ff00} {
		comes(t, holding(desk(), 9), fmt.Sprintf("10=%x", n), 0, func(m *api.Machine) { m.Stack = cells(9, n) })
		compiled(t, holding(desk(), 9), fmt.Sprintf("10=%x", n), lit(n))
	}
	comes(t, desk(), "10=3 10=2 10=1", 0, func(m *api.Machine) { m.Stack = cells(3, 2, 1) })
	compiled(t, desk(), "10=3 10=2 10=1", lit(3), lit(2), lit(1))
}

// P16.1: the number of the word that has a code.
func TestTick(t *testing.T) {
	for xt, p := range dict.Prims() {
		comes(t, desk(), fmt.Sprintf("11=%x", p.Code), 0, func(m *api.Machine) { m.Stack = cells(uint32(xt)) })
		compiled(t, desk(), fmt.Sprintf("11=%x", p.Code), lit(uint32(xt)))
	}
	for code, xt := range map[int]uint32{0x801: wConst, 0x806: wColon, 0x807: uint32(first("dup"))} {
		comes(t, desk(), fmt.Sprintf("11=%x", code), 0, func(m *api.Machine) { m.Stack = cells(xt) })
		compiled(t, desk(), fmt.Sprintf("11=%x", code), lit(xt))
	}
	// What only fcode itself does is no word.
	for code := range special() {
		for _, s := range []string{"11=%x", "c3=%x"} {
			errs(t, desk(), fmt.Sprintf(s, code), api.ErrToken)
			errs(t, desk(), `b5=800 b7 `+fmt.Sprintf(s, code)+` c2`, api.ErrToken)
		}
	}
}

// P16.1: texts, of each length, of any bytes.
func TestText(t *testing.T) {
	for n := range 256 {
		b := make([]byte, n)
		for i := range b {
			b[i] = byte(n - i)
		}
		for _, had := range []int{0, 1, 6, 8} {
			m := holding(sized(desk(), had), 9)
			at := (had + 3) / 4 * 4
			want := twin(m)
			want.Mem = append(append(want.Mem, make([]byte, at-had)...), b...)
			want.Stack = cells(9, uint32(at), uint32(n))
			text := api.Tok{Code: 0x12, Text: string(b)}
			comesOf(t, m, []api.Tok{text, {}}, want, 0)
			want.Stack = m.Stack
			added(&want, 0x808, api.Word{Node: -1, Kind: api.WColon, Code: []api.Op{lit(uint32(at)), lit(uint32(n))}})
			comesOf(t, m, []api.Tok{{Code: 0xb5, N: 0x808}, {Code: 0xb7}, text, {Code: 0xc2}, {}}, want, 0)
		}
	}
	y := done(t, desk(), `12"hello" 90 12"" 12"a" 90`)
	if y.Out != "helloa" || !slices.Equal(y.Stack, cells(16, 0)) || string(y.Mem[8:]) != "hello\x00\x00\x00a" {
		t.Errorf("%q, %v, %q", y.Out, y.Stack, y.Mem)
	}
}

// P16.1: a cell goes into the word that has a code.
func TestTo(t *testing.T) {
	comes(t, holding(desk(), 8, 9), "c3=802", 0, func(m *api.Machine) { m.Stack, m.Words[wValue].N = cells(8), 9 })
	comes(t, holding(desk(), 8, 9), "c3=804", 0, func(m *api.Machine) { m.Stack, m.Words[wDefer].N = cells(8), 9 })
	comes(t, holding(as(desk(), onDisk), 8, 9), "c3=805", 0, func(m *api.Machine) { m.Stack, m.Insts[onDisk].Cells = cells(8), cells(30, 9) })
	for code := 0x801; code <= 0x807; code++ {
		xt := desk().Codes[code-0x800]
		compiled(t, desk(), fmt.Sprintf("c3=%x", code), op(api.OTo, uint32(xt)))
		for _, m := range []api.Machine{desk(), holding(desk(), 1), holding(desk(), 1000), holding(as(desk(), onDisk), 1)} {
			want, wantE := inner.To(m, xt)
			y, left, e := eval(t, m, program(t, []api.Tok{{Code: 0xc3, N: uint32(code)}, {}}), 3)
			if e != wantE || !alike(y, want) || e == api.OK && left != 3 {
				t.Errorf("c3=%x: %v; want %v", code, e, wantE)
			}
		}
	}
	for code, want := range map[string]api.Errno{"801": api.ErrWord, "806": api.ErrWord, "807": api.ErrWord, "47": api.ErrWord, "802": api.ErrUnder, "804": api.ErrUnder, "805": api.ErrUnder} {
		errs(t, desk(), "c3="+code, want)
	}
	errs(t, holding(desk(), deskWords), "c3=804", api.ErrWord)
	errs(t, holding(desk(), 1), "c3=805", api.ErrSelf)
}

// P16.1: that offsets are wide from somewhere on changes nothing of what is done.
func TestWiden(t *testing.T) {
	comes(t, desk(), "cc", 0, same)
	comes(t, desk(), "cc 10=5 cc cc 10=6 cc", 0, func(m *api.Machine) { m.Stack = cells(5, 6) })
	compiled(t, desk(), "cc 14+2 cc 47 b2 cc", op(api.OZero, 2), call("dup"))
}

// nameForms: a name as each of the tokens that may tell it.
func nameForms(name string, code int) []api.Tok {
	l := []api.Tok{{Code: 0xb6, Text: name, N: uint32(code)}, {Code: 0xca, Text: name, N: uint32(code)}}
	if name == "" {
		l = append(l, api.Tok{Code: 0xb5, N: uint32(code)})
	}
	return l
}

// P16.1: each way to make a word, by each kind of name, with each code, with a device at work and without one.
func TestMake(t *testing.T) {
	for _, name := range []string{"", "x", "dup", "k", ":", "if", "5", "\"", "~!@#$%^&*()_+{}|:<>?-=[];',./`", strings.Repeat("n", api.MaxName)} {
		for _, code := range []int{0x800, 0x802, 0x808, 0x809, 0x8ff, 0x900, 0xfff} {
			for _, node := range []int{-1, 0, bus, disk} {
				for _, x := range nameForms(name, code) {
					makesEach(t, node, code, x)
				}
			}
		}
	}
}

func makesEach(t *testing.T, node, code int, name api.Tok) {
	t.Helper()
	m := holding(atWork(desk(), node), 8, 9)
	made := func(change func(m *api.Machine), w api.Word, l ...api.Tok) {
		t.Helper()
		want := twin(m)
		change(&want)
		w.Name, w.Node = name.Text, node
		added(&want, code, w)
		comesOf(t, m, append(l, api.Tok{}), want, 0)
	}
	takes := func(m *api.Machine) { m.Stack = cells(8) }
	made(takes, api.Word{Kind: api.WConst, N: 9}, name, api.Tok{Code: 0xba})
	made(takes, api.Word{Kind: api.WValue, N: 9}, name, api.Tok{Code: 0xb8})
	made(same, api.Word{Kind: api.WDefer}, name, api.Tok{Code: 0xbc})
	made(func(m *api.Machine) { m.Mem = append(m.Mem, make([]byte, 2+4)...) }, api.Word{Kind: api.WVar, N: 8}, name, api.Tok{Code: 0xb9})
	made(func(m *api.Machine) { m.Mem, m.Stack = append(m.Mem, make([]byte, 2+9)...), cells(8) }, api.Word{Kind: api.WVar, N: 8}, name, api.Tok{Code: 0xbd})
	made(same, api.Word{Kind: api.WColon}, name, api.Tok{Code: 0xb7}, api.Tok{Code: 0xc2})
	made(same, api.Word{Kind: api.WColon, Code: []api.Op{call("dup"), lit(6)}}, name, api.Tok{Code: 0xb7}, api.Tok{Code: 0x47}, api.Tok{Code: 0x10, N: 6}, api.Tok{Code: 0xc2})
	if node == bus || node == 0 {
		had := uint32(len(m.Tree[node].Cells))
		made(func(m *api.Machine) {
			m.Stack, m.Tree[node].Cells = cells(8), append(m.Tree[node].Cells, 9)
		}, api.Word{Kind: api.WInst, N: had}, api.Tok{Code: 0xc0}, name, api.Tok{Code: 0xb8})
	}
}

// P16.1: a word is known by its code from behind what made it, of a definition from behind its end; what had the code ahead is known by it no more.
func TestCodes(t *testing.T) {
	leaves(t, desk(), "10=5 b5=800 ba 800 800", 5, 5)
	leaves(t, desk(), "10=5 b5=800 ba 10=6 b5=801 ba 800 801 10=7 b5=800 ba 800 801", 5, 6, 7, 6)
	leaves(t, desk(), "10=5 b5=fff b8 fff 10=6 c3=fff fff 11=fff 1d", 5, 6, 6)
	leaves(t, desk(), `b6"x"=800 b7 10=5 c2 b6"y"=801 b7 800 800 1e c2 801`, 10)
	leaves(t, desk(), `b6"x"=801 b7 801 801 c2 801`, 7, 7)
	leaves(t, desk(), `b6"x"=801 b7 801 801 c2 b6"y"=801 b7 801 801 c2 801`, 7, 7, 7, 7)
	leaves(t, desk(), `b5=807 b7 11=807 c2 11=807 807`, deskWords, uint32(first("dup")))
	errs(t, desk(), `b6"x"=800 b7 800 c2`, api.ErrToken)
	errs(t, desk(), `b6"x"=800 b7 11=800 c2`, api.ErrToken)
	errs(t, desk(), `b6"x"=800 b7 c3=800 c2`, api.ErrToken)
	// Names count for nothing: only codes lead to words.
	leaves(t, desk(), `10=5 b6"dup"=800 ba 10=6 47`, 6, 6)
	leaves(t, desk(), `10=5 b6"x"=800 ba 10=6 b6"x"=801 ba 800 801`, 5, 6)
	// Both codes of a word lead to it, and a code may be given again and again.
	y := done(t, desk(), "10=5 b5=808 ba 10=6 b5=808 ba 10=7 b5=80a ba")
	if want := []int{-1, wConst, wValue, wVar, wDefer, wInst, wColon, first("dup"), deskWords + 1, -1, deskWords + 2}; !slices.Equal(y.Codes, want) {
		t.Errorf("%v; want %v", y.Codes, want)
	}
}

// P16.1: a word of a definition is a method of the device that is at work there.
func TestDevice(t *testing.T) {
	y := done(t, desk(), `10=0 12"dev" 11f b6"x"=800 b7 c2 10=3 c0 b6"y"=801 b8 127 b6"z"=802 b7 c2`)
	l := later(y)
	if len(l) != 3 || l[0].Node != 3 || l[1].Node != 3 || l[1].Kind != api.WInst || l[2].Node != 0 || y.Tree[3].Name != "dev" || !slices.Equal(y.Tree[3].Cells, cells(3)) {
		t.Error(l, y.Tree)
	}
	// A method that the program has made is called by its name.
	leaves(t, atWork(desk(), disk), `b6"five"=800 b7 10=5 c2 12"five" 10=2 20e`, 5)
	leaves(t, atWork(desk(), disk), `ca"five"=800 b7 203 805 c2 12"five" 10=2 20e 203`, 2, 31, 0)
	errs(t, atWork(desk(), disk), `b5=800 b7 10=5 c2 12"five" 10=2 20e`, api.ErrMethod)
}

// P16.1: each code that builds, as the act that it is.
func TestBranches(t *testing.T) {
	for body, want := range map[string][]api.Op{
		"14+4 a6 b2":               {op(api.OZero, 2), call("1")},
		"14+4 a6 13+4 b2 a7 b2":    {op(api.OZero, 3), call("1"), op(api.OBranch, 4), call("2")},
		"b1 47 13-3":               {call("dup"), op(api.OBranch, 0)},
		"b1 47 14-3":               {call("dup"), op(api.OZero, 0)},
		"b1 14+9 47 13-5 b2":       {op(api.OZero, 3), call("dup"), op(api.OBranch, 0)},
		"17+7 19 15-3":             {op(api.ODo, 3), call("i"), op(api.OLoop, 1)},
		"18+7 19 16-3":             {op(api.OQDo, 3), call("i"), op(api.OPlus, 1)},
		"17+7 1b 19 1b 15-3":       {op(api.ODo, 5), op(api.OLeave, 5), call("i"), op(api.OLeave, 5), op(api.OLoop, 1)},
		"c4 a6 1c+4 a7 c6+5 a8 c5": {call("1"), op(api.OOf, 4), call("2"), op(api.OBranch, 6), call("3"), op(api.ODrop, 0)},
		"c4 c5":                    {op(api.ODrop, 0)},
		"33":                       {op(api.OExit, 0)},
		"47 33 47":                 {call("dup"), op(api.OExit, 0), call("dup")},
		"b1 b1 14-1 13-1":          {op(api.OZero, 0), op(api.OBranch, 0)},
		"a6 b1 a7 13-1 a8 b1 14-1": {call("1"), call("2"), op(api.OBranch, 1), call("3"), op(api.OZero, 4)},
		"14+1 14+1 b2 b2":          {op(api.OZero, 2), op(api.OZero, 2)},
		"17 17 1b 15 1b 16":        {op(api.ODo, 6), op(api.ODo, 4), op(api.OLeave, 4), op(api.OLoop, 2), op(api.OLeave, 6), op(api.OPlus, 1)},
	} {
		compiled(t, desk(), body, want...)
	}
	// Nothing newest is there that is asked for.
	for _, body := range []string{
		"b2", "b1 b2", "14 b2 b2", "17 b2", "c4 1c b2", "13", "13+9", "b1 13+9", "14 b2 13", "17 13", "13-1", "14-1", "14 13-1", "14 14-1", "b1 13-1 14-1", "17 13-1",
		"15", "16-1", "1b", "b1 15-1", "17 15 15", "18 16 1b", "1c", "c6", "c5", "c4 c6", "c4 1c 1c", "c4 1c c5", "c4 1c c6 c6", "c4 c5 c5", "17 c5",
	} {
		errs(t, desk(), "b5=800 b7 "+body+" c2", api.ErrControl)
		errs(t, desk(), "b5=800 b7 "+body+" ba", api.ErrControl)
	}
	// Something is left open.
	for _, body := range []string{"14", "b1", "17", "18", "c4", "14 13 b2", "c4 1c", "c4 1c c6"} {
		errs(t, desk(), "b5=800 b7 "+body+" c2", api.ErrControl)
		errs(t, desk(), "b5=800 b7 "+body+" ba", api.ErrToken)
	}
}

// P16.1: how great an offset is counts for nothing; of 13 and 14 its sign does.
func TestOffsets(t *testing.T) {
	ahead := []int{0, 1, 2, 127, 128, 32767}
	back := []int{-1, -2, -128, -129, -32768}
	for _, off := range ahead {
		compiled(t, desk(), fmt.Sprintf("14%+d a6 13%+d b2 a7 b2", off, off), op(api.OZero, 3), call("1"), op(api.OBranch, 4), call("2"))
		errs(t, desk(), fmt.Sprintf("b5=800 b7 b1 13%+d", off), api.ErrControl)
		errs(t, desk(), fmt.Sprintf("b5=800 b7 b1 14%+d c2", off), api.ErrControl)
	}
	for _, off := range back {
		compiled(t, desk(), fmt.Sprintf("b1 a6 b1 a7 13%+d 14%+d", off, off), call("1"), call("2"), op(api.OBranch, 1), op(api.OZero, 0))
		errs(t, desk(), fmt.Sprintf("b5=800 b7 14+1 13%+d", off), api.ErrControl)
		errs(t, desk(), fmt.Sprintf("b5=800 b7 14%+d", off), api.ErrControl)
	}
	for _, off := range append(ahead, back...) {
		compiled(t, desk(), fmt.Sprintf("17%+d a6 1b 15%+d 18%+d a7 16%+d", off, off, off, off),
			op(api.ODo, 4), call("1"), op(api.OLeave, 4), op(api.OLoop, 1), op(api.OQDo, 7), call("2"), op(api.OPlus, 5))
		compiled(t, desk(), fmt.Sprintf("c4 1c%+d a6 c6%+d c5", off, off), op(api.OOf, 3), call("1"), op(api.OBranch, 4), op(api.ODrop, 0))
		for _, code := range []string{"13", "14", "15", "16", "17", "18", "1c", "c6"} {
			errs(t, desk(), fmt.Sprintf("%s%+d", code, off), api.ErrControl)
		}
	}
}

// P16.1: programs with narrow offsets, such as become wide, and wide ones.
func TestNarrow(t *testing.T) {
	for _, c := range []struct {
		body []byte
		wide bool
		want []uint32
	}{
		{[]byte{0xb5, 8, 0, 0xb7, 0x14, 2, 0xa6, 0xb2, 0xc2, 0xa7, 0x08, 0x00, 0}, false, cells(1)},
		{[]byte{0xb5, 8, 0, 0xb7, 0x14, 0, 2, 0xa6, 0xb2, 0xc2, 0xa7, 0x08, 0x00, 0}, true, cells(1)},
		{[]byte{0xcc, 0xb5, 8, 0, 0xb7, 0x14, 0, 2, 0xa6, 0xb2, 0xc2, 0xa7, 0x08, 0x00, 0}, false, cells(1)},
		{[]byte{0xb5, 8, 0, 0xb7, 0x14, 2, 0xcc, 0xa6, 0x13, 0, 2, 0xb2, 0xa8, 0xb2, 0xc2, 0xa5, 0x08, 0x00, 0}, false, cells(3)},
		// Narrow, 80 is below 0; wide, 00 80 isn't.
		{[]byte{0xb5, 8, 0, 0xb7, 0xb1, 0x2c, 0x47, 0x38, 0x14, 0x80, 0xc2, 0xa6, 0x08, 0x00, 0}, false, cells(1)},
		{[]byte{0xb5, 8, 0, 0xb7, 0x14, 0, 0x80, 0xa6, 0xb2, 0xc2, 0xa7, 0x08, 0x00, 0}, true, cells(1)},
	} {
		m := dict.New()
		y, _, e := eval(t, m, headed(t, c.body, c.wide), plenty)
		if e != api.OK || !slices.Equal(y.Stack, c.want) {
			t.Errorf("%x: %v, %v; want %v", c.body, e, y.Stack, c.want)
		}
	}
	// Read the other way round, they are something else.
	for _, c := range []struct {
		body []byte
		wide bool
		want api.Errno
	}{
		{[]byte{0xb5, 8, 0, 0xb7, 0x14, 2, 0xa6, 0xb2, 0xc2, 0}, true, api.OK},
		{[]byte{0xb5, 8, 0, 0xb7, 0x14, 0x82, 0xa6, 0xb2, 0xc2, 0}, true, api.ErrControl},
		{[]byte{0x13, 0xfe}, true, api.ErrToken},
		{[]byte{0x13, 0xfe, 0}, false, api.ErrControl},
		{[]byte{0x13, 0xfe, 0}, true, api.ErrToken},
	} {
		if _, _, e := eval(t, desk(), headed(t, c.body, c.wide), plenty); e != c.want {
			t.Errorf("%x: %v; want %v", c.body, e, c.want)
		}
	}
}

// P16.1: definitions do what their tokens say.
func TestDefinitions(t *testing.T) {
	leaves(t, dict.New(), `b6"sq"=800 b7 47 20 c2 10=7 800`, 49)
	leaves(t, dict.New(), `b6"f"=800 b7 14+9 10=1 13+9 b2 10=2 b2 c2 a5 800 a6 800`, 2, 1)
	leaves(t, dict.New(), `b5=800 b7 b1 47 14+9 a6 1f 13-9 b2 c2 10=4 800`, 0)
	leaves(t, dict.New(), `b5=800 b7 a5 10=5 a5 17+9 19 1e 19 10=3 3c 14+3 1b b2 15-9 c2 800`, 6)
	leaves(t, dict.New(), `b5=800 b7 c4 10=1 1c+1 10=a c6+1 10=2 1c+1 10=14 c6+1 10=1e 49 c5 c2 a6 800 a7 800 a8 800`, 10, 20, 30)
	leaves(t, dict.New(), `b5=800 b7 10=5 33 10=6 c2 800`, 5)
	leaves(t, dict.New(), `b5=800 bc b5=801 b7 800 c2 11=47 c3=800 10=4 801`, 4, 4)
	leaves(t, dict.New(), `10=5 b5=800 b8 b5=801 b7 800 1e c3=800 c2 10=3 801 800`, 8)
	leaves(t, dict.New(), `b5=800 b7 10=5 218 c2 11=800 217`, 5)
	leaves(t, dict.New(), `b5=800 b9 10=7 800 72 800 6d`, 7)
	leaves(t, dict.New(), `10=8 b5=800 bd ad 800`, 8, 0)
}
