package fcode_test

import (
	"fmt"
	"math"
	"slices"
	"strings"
	"testing"

	"tinder/api"
	"tinder/dict"
	"tinder/fcode"
)

// notFormed: machines that are not formed, for each cause alone.
func notFormed() []api.Machine {
	var l []api.Machine
	for _, spoil := range []func(m *api.Machine){
		func(m *api.Machine) { m.Stack = many(api.MaxStack + 1) },
		func(m *api.Machine) { m.Mem = make([]byte, api.MaxMem+1) },
		func(m *api.Machine) { m.Words = nil },
		func(m *api.Machine) { m.Words = m.Words[:api.Prims-1] },
		func(m *api.Machine) { m.Words[41].Name = "doop" },
		func(m *api.Machine) { *m = wordy(*m, api.MaxWords+1) },
		func(m *api.Machine) { m.Words[wDefer].N = deskWords },
		func(m *api.Machine) { m.Words[wColon].Code[0].N = deskWords },
		func(m *api.Machine) { m.Codes = []int{deskWords} },
		func(m *api.Machine) { m.Codes = []int{-2} },
		func(m *api.Machine) { m.Codes = make([]int, 2049) },
		func(m *api.Machine) { m.Base = 1 },
		func(m *api.Machine) { m.Base = 37 },
		func(m *api.Machine) { m.Tree = nil },
		func(m *api.Machine) { m.Tree[bus].Name = "" },
		func(m *api.Machine) { m.Node = 3 },
		func(m *api.Machine) { m.Node = -2 },
		func(m *api.Machine) { m.Insts[onDisk].Cells = nil },
		func(m *api.Machine) { m.Self = 0 },
		func(m *api.Machine) { *m = shown(*m, api.MaxOut+1) },
	} {
		l = append(l, with(spoil))
	}
	return append(l, api.Machine{})
}

// somePrograms: one that comes through, and such as are refused, each for another cause.
func somePrograms(t *testing.T) [][]byte {
	return [][]byte{
		program(t, ended("10=5")), program(t, ended("46")), program(t, ended("b7")), program(t, ended("c2")), program(t, toks("10=5")), headed(t, []byte{0x10}, true),
		headed(t, nil, false), nil, {}, {0xf1}, make([]byte, api.MaxFCode+1),
	}
}

// P16.1: what is wrong from the beginning is ErrArg, whatever else is due.
func TestWrongArguments(t *testing.T) {
	for _, p := range somePrograms(t) {
		for _, m := range notFormed() {
			for _, fuel := range []int{0, 10, -1} {
				if _, _, e := eval(t, m, p, fuel); e != api.ErrArg {
					t.Errorf("%.20x: %v", p, e)
				}
			}
		}
		for _, fuel := range []int{math.MinInt, -1, api.MaxFuel + 1, math.MaxInt} {
			if _, _, e := eval(t, desk(), p, fuel); e != api.ErrArg {
				t.Errorf("%.20x with %d steps: %v", p, fuel, e)
			}
		}
	}
}

// P16.1: what is no program is ErrHead, ahead of all that its tokens are.
func TestHeads(t *testing.T) {
	for _, body := range [][]byte{{0x10, 0, 0, 0, 5, 0}, {0x46, 0}, {0x10}, {}, {5}} {
		for _, wide := range []bool{false, true} {
			p := headed(t, body, wide)
			_, _, want := eval(t, desk(), p, 9)
			if want == api.ErrHead {
				t.Fatalf("%x: %v", p, want)
			}
			for i := range p {
				// A length that is less by a few bytes may have the right sum of the rest; the sum is put wrong with it.
				for _, by := range []byte{1, 0x80, 0xff} {
					q := slices.Clone(p)
					q[i] += by
					if i >= 4 && i < 8 {
						q[3]++
					}
					if _, _, e := eval(t, desk(), q, 9); e != api.ErrHead {
						t.Errorf("%x: %v", q, e)
					}
				}
			}
			for n := range p {
				if _, _, e := eval(t, desk(), p[:n], 9); e != api.ErrHead {
					t.Errorf("%x: %v", p[:n], e)
				}
			}
		}
	}
}

// P16.1: bodies that can't be read, or have no end, are ErrToken, ahead of all that their tokens do.
func TestUnread(t *testing.T) {
	for _, s := range []string{
		"", "\x47", "\x46\x46", "\xb7", "\xc2", "\x10\x00\x00\x00\x00", "\x12\x01\x00", "\x12\x01\xff", "\x11\x00", "\x11\xff", "\xb6\x01\x00\x08\x00\xba", "\x0f\xff", "\x01\x00", "\x14\x00\x00", "\xb5\x0f\xff\xb7\xc2", "\xb5\x08\x00",
	} {
		if _, _, e := eval(t, desk(), headed(t, []byte(s), true), 9); e != api.ErrToken {
			t.Errorf("%x: %v", s, e)
		}
	}
	for _, ahead := range []string{"", "\x46", "\x47\x46", "\xb7", "\xc2", "\x00", "\xff", "\x46\x00", "\x10\x00\x00\x00\x05\x00"} {
		for _, s := range []string{"\x05", "\x0f", "\x00\x05", "\xff\x0f", "\x10\x00\x00\x00", "\x11", "\x11\x05", "\x12", "\x12\x02a", "\x13\x00", "\xb5\x08", "\xb5\x07\xff", "\xb5\x10\x00", "\xb6\x20" + strings.Repeat("n", 32) + "\x08\x00", "\xca\x01x\x07\xff", "\x02\x03\x01"} {
			if _, _, e := eval(t, desk(), headed(t, []byte(ahead+s), true), 9); e != api.ErrToken {
				t.Errorf("%x: %v", ahead+s, e)
			}
		}
	}
}

// P16.1: programs of MaxFCode bytes, and of one more.
func TestMaxFCode(t *testing.T) {
	body := []byte(strings.Repeat("\xcc", api.MaxFCode-8-6) + "\x10\x00\x00\x00\x05\x00")
	p := headed(t, body, true)
	if y, _, e := eval(t, desk(), p, 9); len(p) != api.MaxFCode || e != api.OK || !slices.Equal(y.Stack, cells(5)) {
		t.Error(len(p), e, y.Stack)
	}
	if _, _, e := eval(t, desk(), append(p, 0), 9); e != api.ErrHead {
		t.Error(e)
	}
	// All of them gone through, each a step.
	body = []byte(strings.Repeat("\xa6\x46", (api.MaxFCode-8)/2-1) + "\xa6\x00")
	if y, left, e := eval(t, dict.New(), headed(t, body, true), 10000); e != api.OK || left != 10000-(api.MaxFCode-9) || !slices.Equal(y.Stack, cells(1)) {
		t.Error(e, left, y.Stack)
	}
}

// P16.1: names of each length, and each byte in one.
func TestNames(t *testing.T) {
	makers := []string{"b7 c2", "b8", "b9", "ba", "bc", "bd"}
	try := func(name string, ok bool) {
		t.Helper()
		for _, s := range makers {
			for _, x := range nameForms(name, 0x800) {
				l := append([]api.Tok{x}, ended(s)...)
				if !ok {
					errsOf(t, holding(desk(), 1), l, plenty, api.ErrToken)
					errsOf(t, holding(atWork(desk(), bus), 1), append([]api.Tok{{Code: 0xc0}}, l...), plenty, api.ErrToken)
					continue
				}
				y, _, e := eval(t, holding(desk(), 1), program(t, l), plenty)
				if e != api.OK || len(later(y)) != 1 || later(y)[0].Name != name || y.Codes[0] != deskWords {
					t.Errorf("%s: %v, %v", told(l), e, later(y))
				}
			}
		}
	}
	for n := range api.MaxName + 1 {
		try(strings.Repeat("n", n), true)
	}
	for c := range 256 {
		ok := c >= 33 && c <= 126 && (c < 'A' || c > 'Z')
		for _, s := range []string{"%s", "a%s", "%sa", strings.Repeat("n", 30) + "%s"} {
			try(fmt.Sprintf(s, string([]byte{byte(c)})), ok)
		}
	}
}

// P16.1: behind a name stands what makes a word, behind a c0 a name.
func TestWhatFollows(t *testing.T) {
	said := special()
	makers := []int{0xb7, 0xb8, 0xb9, 0xba, 0xbc, 0xbd}
	m := holding(atWork(desk(), bus), 1, 2)
	for code := range 0x1000 {
		x := alone(code)
		if _, ok := said[code]; !ok && code != 0x47 && code != 0x801 && code != 0x800 && code != 0xbb || slices.Contains(makers, code) {
			continue
		}
		for _, name := range []string{"b5=800", `b6""=800`, `b6"x"=800`, `ca"x"=800`, `b6"X"=800`} {
			errsOf(t, m, append(toks(name), x, api.Tok{}), plenty, api.ErrToken)
			errsOf(t, m, append(toks(name), x, api.Tok{Code: 0xb8}, api.Tok{}), plenty, api.ErrToken)
			errsOf(t, m, append(toks("c0 "+name), x, api.Tok{}), plenty, api.ErrToken)
			errsOf(t, m, append(toks("c0 "+name), x, api.Tok{Code: 0xb8}, api.Tok{}), plenty, api.ErrToken)
		}
		if code != 0xb5 && code != 0xb6 && code != 0xca {
			errsOf(t, m, append(toks("c0"), x, api.Tok{}), plenty, api.ErrToken)
			errsOf(t, m, append(toks("c0"), x, api.Tok{Code: 0xb5, N: 0x800}, api.Tok{Code: 0xb8}, api.Tok{}), plenty, api.ErrToken)
		}
	}
	for _, by := range makers {
		errs(t, m, fmt.Sprintf("%x", by), api.ErrToken)
		errs(t, m, fmt.Sprintf("c0 %x", by), api.ErrToken)
		errs(t, m, fmt.Sprintf("b5=800 b8 %x", by), api.ErrToken)
		errs(t, m, fmt.Sprintf("b5=800 b7 %x", by), api.ErrToken)
		errs(t, m, fmt.Sprintf("b5=800 b7 b1 %x c2", by), api.ErrToken)
		errs(t, m, fmt.Sprintf("b5=800 b7 c2 %x", by), api.ErrToken)
		errs(t, m, fmt.Sprintf("b5=800 cc %x", by), api.ErrToken)
		errs(t, m, fmt.Sprintf("c0 cc b5=800 %x", by), api.ErrToken)
	}
	errs(t, m, "c0 c0 b5=800 b8", api.ErrToken)
	errs(t, m, "b5=800 b5=801 b8", api.ErrToken)
}

// P16.1: of an instance there is only b8; a name that is none, or what isn't made by, comes ahead.
func TestOfInstance(t *testing.T) {
	full := wordy(desk(), api.MaxWords)
	for _, m := range []api.Machine{desk(), holding(atWork(desk(), bus), 1), holding(atWork(desk(), disk), 1), full, sized(desk(), api.MaxMem)} {
		for _, by := range []string{"b7", "b9", "ba", "bc", "bd"} {
			for _, name := range []string{"b5=800", `b6"x"=800`, `ca"x"=800`} {
				errs(t, m, "c0 "+name+" "+by, api.ErrControl)
			}
			errs(t, m, `c0 b6"X"=800 `+by, api.ErrToken)
			errs(t, m, `c0 ca" "=800 `+by, api.ErrToken)
		}
		errs(t, m, "c0 b5=800 b7 c2", api.ErrControl)
		errs(t, m, `c0 b6"X"=800 b8`, api.ErrToken)
	}
	for _, c := range []struct {
		m    api.Machine
		want api.Errno
	}{
		{holding(desk(), 1), api.ErrNode}, {full, api.ErrNode}, {holding(atWork(desk(), disk), 1), api.ErrSelf}, {atWork(full, disk), api.ErrSelf}, {atWork(full, bus), api.ErrUnder},
		{holding(atWork(full, bus), 1), api.ErrMany}, {holding(atWork(celled(desk(), bus, api.MaxCells), bus), 1), api.ErrMany}, {holding(atWork(celled(desk(), bus, api.MaxCells-1), bus), 1), api.OK},
	} {
		errs(t, c.m, "c0 b5=800 b8", c.want)
		errs(t, c.m, `c0 b6"x"=800 b8`, c.want)
		errs(t, c.m, `c0 ca"x"=800 b8`, c.want)
	}
}

// P16.1: each token in the state in which it is ErrControl, whatever stands behind it.
func TestControl(t *testing.T) {
	for _, behind := range []string{"", " 47", " c2", " b5=801", " b7", " 800", ` 12"a"`} {
		for _, x := range []string{"c2", "33", "1b", "b1", "b2", "c4", "c5", "13", "13-1", "14", "14-1", "15", "15-1", "16", "17", "18", "1c", "c6", "c6-9"} {
			errs(t, desk(), x+behind, api.ErrControl)
			errs(t, holding(desk(), 1, 2), "10=5 "+x+behind, api.ErrControl)
			errs(t, desk(), "b5=800 b7 c2 "+x+behind, api.ErrControl)
			errs(t, desk(), "b5=800 b7 b1 13-1 c2 800 "+x+behind, api.ErrFuel)
		}
		for _, x := range []string{"b5=800", `b6"x"=800`, `b6"X"=800`, `ca"x"=fff`, `ca""=800`, "c0"} {
			for _, open := range []string{"", " 47", " b1", " 14+1"} {
				errs(t, desk(), "b5=800 b7"+open+" "+x+behind, api.ErrControl)
				errs(t, holding(desk(), 1, 2), `b6"x"=800 b7`+open+" "+x+" b8"+behind, api.ErrControl)
			}
		}
	}
	// The program ends while it compiles.
	for _, end := range []int{0, 0xff} {
		for _, s := range []string{"b5=800 b7", `b6"x"=800 b7 47`, "b5=800 b7 b1", "b5=800 b7 14", "b5=800 b7 c2 b5=801 b7", "b5=800 b7 c4 1c"} {
			errsOf(t, desk(), append(toks(s), api.Tok{Code: end}), plenty, api.ErrControl)
			errsOf(t, wordy(desk(), api.MaxWords), append(toks("b5=800 b7"), api.Tok{Code: end}, api.Tok{Code: 0xc2}, api.Tok{}), plenty, api.ErrControl)
		}
	}
	errs(t, desk(), "b5=800 b7 c2 c2", api.ErrControl)
}

// P16.1: MaxWords words are made in each way, one more is ErrMany.
func TestMaxWords(t *testing.T) {
	for _, s := range []string{"b5=fff ba", "b5=fff b8", "b5=fff b9", "b5=fff bc", "b5=fff bd", "b5=fff b7 c2", "c0 b5=fff b8"} {
		y := done(t, holding(atWork(wordy(desk(), api.MaxWords-1), bus), 1), s)
		if len(y.Words) != api.MaxWords || len(y.Codes) != 2048 || y.Codes[2047] != api.MaxWords-1 {
			t.Errorf("%s: %d words", s, len(y.Words))
		}
		errs(t, holding(atWork(wordy(desk(), api.MaxWords), bus), 1), s, api.ErrMany)
	}
	full := wordy(desk(), api.MaxWords)
	errs(t, full, "b5=800 b7 b1 c2", api.ErrControl)
	errs(t, full, "b5=800 b7", api.ErrControl)
	errs(t, full, "b5=800 b7 800 c2", api.ErrToken)
	errs(t, full, "b5=800 ba", api.ErrUnder)
	errs(t, full, `b6"X"=800 b7 c2`, api.ErrToken)
	leaves(t, full, "801", 7)
	// As many as there are codes for come from nothing.
	const all = api.MaxWords - api.Prims
	var l []api.Tok
	for i := range all {
		l = append(l, api.Tok{Code: 0xb5, N: uint32(0xfff - i)}, api.Tok{Code: 0xbc})
	}
	y, _, e := eval(t, dict.New(), program(t, append(slices.Clone(l), api.Tok{})), 0)
	if e != api.OK || len(y.Words) != api.MaxWords || y.Codes[2047] != api.Prims || y.Codes[2047-all+1] != api.MaxWords-1 || y.Codes[2047-all] != -1 {
		t.Error(e, len(y.Words))
	}
	errsOf(t, dict.New(), append(l, api.Tok{Code: 0xb5, N: 0x800}, api.Tok{Code: 0xbc}, api.Tok{}), 0, api.ErrMany)
}

// P16.1: MaxStack cells, one more is ErrOver.
func TestMaxStack(t *testing.T) {
	for free := range 4 {
		m := holding(desk(), many(api.MaxStack-free)...)
		for s, more := range map[string]int{"10=5": 1, "11=47": 1, "11=801": 1, `12"a"`: 2, `12""`: 2, "a6": 1, "801": 1, "10=5 10=6": 2, `10=5 12"a"`: 3, "cc": 0} {
			want := api.OK
			if more > free {
				want = api.ErrOver
			}
			errs(t, m, s, want)
		}
		// What compiles puts nothing on the stack.
		errs(t, m, `b5=800 b7 10=5 10=6 10=7 10=8 11=47 12"a" c2`, api.OK)
	}
	full := holding(desk(), many(api.MaxStack)...)
	errs(t, full, "11=800", api.ErrToken)
	errs(t, full, "800", api.ErrToken)
	errs(t, sized(full, api.MaxMem), `12"a"`, api.ErrRoom)
	errs(t, sized(full, api.MaxMem), `12""`, api.ErrOver)
}

// P16.1: MaxCode instructions, one more is ErrLong.
func TestMaxCode(t *testing.T) {
	fill := func(n int) string { return "b5=800 b7" + strings.Repeat(" 47", n) + " " }
	if y := done(t, desk(), fill(api.MaxCode)+"c2"); len(later(y)[0].Code) != api.MaxCode {
		t.Error(len(later(y)[0].Code))
	}
	for free := range 5 {
		for s, more := range map[string]int{
			"10=5": 1, "47": 1, "801": 1, "33": 1, "11=47": 1, "c3=802": 1, "c3=47": 1, `12"a"`: 2, `12""`: 2, "cc": 0, "14 b2": 1, "14 13 b2 b2": 2, "b1 13-1": 1, "b1 14-1": 1, "b1 14 13-1 b2": 2,
			"17 15": 2, "18 16": 2, "17 1b 15": 3, "c4 c5": 1, "c4 1c c6 c5": 3, "b1 b1 b1 13-1 13-1 13-1": 3,
		} {
			want := api.OK
			if more > free {
				want = api.ErrLong
			}
			errs(t, desk(), fill(api.MaxCode-free)+s+" c2", want)
		}
	}
	full := fill(api.MaxCode)
	for s, want := range map[string]api.Errno{
		"800": api.ErrToken, "11=800": api.ErrToken, "c3=800": api.ErrToken, "b7": api.ErrToken, "ba": api.ErrToken, "44": api.ErrToken, "b5=800": api.ErrControl, "c0": api.ErrControl, "b2": api.ErrControl, "13": api.ErrControl,
		"13-1": api.ErrControl, "14-1": api.ErrControl, "15": api.ErrControl, "16": api.ErrControl, "1b": api.ErrControl, "1c": api.ErrControl, "c6": api.ErrControl, "c5": api.ErrControl, "c4 c6": api.ErrControl, "b1 c2": api.ErrControl, "": api.ErrControl,
		"14": api.ErrLong, "17": api.ErrLong, "18": api.ErrLong, "b1 13-1": api.ErrLong, "b1 14-1": api.ErrLong, "c4 1c": api.ErrLong, "c4 c5": api.ErrLong, "10=5": api.ErrLong, "11=47": api.ErrLong, "c3=802": api.ErrLong, "47": api.ErrLong, "33": api.ErrLong, `12""`: api.ErrLong,
	} {
		errs(t, desk(), full+s, want)
	}
	errs(t, sized(desk(), api.MaxMem), full+`12"a"`, api.ErrRoom)
	errs(t, sized(desk(), api.MaxMem), full+`12""`, api.ErrLong)
	// The next definition begins anew.
	if y := done(t, desk(), full+"c2 b5=801 b7 47 c2"); len(later(y)) != 2 || len(later(y)[1].Code) != 1 {
		t.Error(later(y))
	}
}

// P16.1: memory with just room for what is asked, and a byte too little.
func TestRoom(t *testing.T) {
	for _, n := range []int{0, 1, 2, 3, 4, 5, 8, 254, 255} {
		s := strings.Repeat("s", n)
		for had := api.MaxMem - n - 8; had <= api.MaxMem; had++ {
			m := sized(desk(), had)
			want := api.OK
			if (had+3)/4*4+n > api.MaxMem {
				want = api.ErrRoom
			}
			errs(t, m, fmt.Sprintf("12%q", s), want)
			errs(t, m, fmt.Sprintf("b5=800 b7 12%q c2", s), want)
			errs(t, m, fmt.Sprintf("10=%x b5=800 bd", n), want)
			if n == 4 {
				errs(t, m, "b5=800 b9", want)
			}
		}
	}
}

// P16.1: what a program takes of fuel: with just so much nothing is left, with more as much more, with less it is ErrFuel.
func TestFuel(t *testing.T) {
	for s, steps := range map[string]int{
		"": 0, "10=5": 0, "a6": 1, "10=5 47": 1, "b5=800 b7 47 47 c2": 0, "10=5 b5=800 b8 10=6 c3=800": 0, "b5=800 b9 b5=809 bc 10=9 b5=80a bd": 0, "11=47 46": 1, `12"a"`: 0, `12"a" 90`: 1, "cc": 0,
		`b5=800 b7 12"a" 90 c2 800`: 1 + 3 + 1, "b5=800 b7 47 20 c2 10=7 800": 5, "b5=800 b7 c2 800 800 800": 3, "b5=800 b7 10=a a5 17 19 15 c2 800": 1 + 1 + 2 + 1 + 10*3, "10=4 804": 2, "b5=800 b7 33 c2 800": 2,
		"10=4 806 806": 10, "b5=800 b7 11=47 c2 800": 2, "b5=800 b7 c3=802 c2 10=4 800": 2, "a6 a7 a8": 3, "b5=800 b7 10=5 218 c2 11=800 217": 1 + 1 + 1 + 2,
	} {
		p := program(t, ended(s))
		for _, more := range []int{0, 1, 2, 1000, api.MaxFuel - steps} {
			if _, left, e := eval(t, desk(), p, steps+more); e != api.OK || left != more {
				t.Errorf("%s with %d steps: %d left, %v; want %d left", s, steps+more, left, e, more)
			}
		}
		for less := 1; less <= steps; less++ {
			errsOf(t, desk(), ended(s), steps-less, api.ErrFuel)
		}
	}
	errsOf(t, desk(), ended("b5=800 b7 b1 13-1 c2 800"), api.MaxFuel, api.ErrFuel)
	errsOf(t, desk(), ended("b5=800 b7 b1 13-1 c2 11=800 217"), api.MaxFuel, api.ErrFuel)
	// The error of a word comes behind that of its step, that of no word ahead.
	errsOf(t, desk(), ended("46"), 0, api.ErrFuel)
	errsOf(t, desk(), ended("800"), 0, api.ErrToken)
	errsOf(t, desk(), ended("14"), 0, api.ErrControl)
	errsOf(t, desk(), ended("a6 800"), 0, api.ErrFuel)
	errsOf(t, desk(), ended("a6 800"), 1, api.ErrToken)
}

// P16.1: the errors of words that are run go out.
func TestErrorsGoOut(t *testing.T) {
	for s, want := range map[string]api.Errno{
		"46": api.ErrUnder, "10=1 10=0 21": api.ErrZero, "10=1 6d": api.ErrAlign, "10=1000 71": api.ErrAddr, "10=ffff 8b": api.ErrRoom, "10=5 30": api.ErrRet, "31": api.ErrRet, "10=ffff 1d": api.ErrWord, "10=5 218": api.ErrThrow,
		"10=1 a0": api.ErrArg, "127": api.ErrNode, "20a": api.ErrSelf, "805": api.ErrSelf, `12"x" 10=2 20e`: api.ErrMethod, "b5=800 b7 b1 46 13-1 c2 800": api.ErrUnder, "b5=800 b7 a6 30 c2 800": api.ErrRet,
		"a6 10=5 10=0 17": api.ErrControl, "10=4 804 11=803 c3=804 804 46 46 46 46": api.ErrUnder,
	} {
		errs(t, desk(), s, want)
	}
	if _, _, e := fcode.Eval(shown(desk(), api.MaxOut), program(t, ended("92")), 9); e != api.ErrOut {
		t.Error(e)
	}
	// What is caught doesn't.
	leaves(t, desk(), "11=46 217", uint32(api.ErrUnder))
	leaves(t, desk(), "b5=800 b7 10=9 218 c2 11=800 217", 9)
	// Of several tokens that would be refused it is the first one's error, and what is never come to counts for nothing.
	for s, want := range map[string]api.Errno{"46 800": api.ErrUnder, "800 46": api.ErrToken, "c2 b7": api.ErrControl, "b7 c2": api.ErrToken, "46 b5=800 b7": api.ErrUnder, "10=5 b5=800 ba 801 46 46 46 c2": api.ErrUnder} {
		errs(t, desk(), s, want)
	}
}
