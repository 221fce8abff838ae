package outer_test

import (
	"fmt"
	"math"
	"slices"
	"strings"
	"testing"

	"tinder/api"
	"tinder/dict"
	"tinder/outer"
)

// notFormed: machines that are not formed, for each cause alone.
func notFormed() []api.Machine {
	var l []api.Machine
	for _, spoil := range []func(m *api.Machine){
		func(m *api.Machine) { m.Stack = many(api.MaxStack + 1) },
		func(m *api.Machine) { m.Mem = make([]byte, api.MaxMem+1) },
		func(m *api.Machine) { m.Words = nil },
		func(m *api.Machine) { m.Words = m.Words[:api.Prims-1] },
		func(m *api.Machine) { m.Words[41].Name = "doop" },
		func(m *api.Machine) { *m = wordy(*m, api.MaxWords+1) },
		func(m *api.Machine) { m.Words[wDefer].N = deskWords },
		func(m *api.Machine) { m.Words[wColon].Code[0].N = deskWords },
		func(m *api.Machine) { m.Codes = []int{deskWords} },
		func(m *api.Machine) { m.Base = 1 },
		func(m *api.Machine) { m.Base = 37 },
		func(m *api.Machine) { m.Tree = nil },
		func(m *api.Machine) { m.Tree[bus].Name = "" },
		func(m *api.Machine) { m.Node = 3 },
		func(m *api.Machine) { m.Node = -2 },
		func(m *api.Machine) { m.Insts[onDisk].Cells = nil },
		func(m *api.Machine) { m.Self = 0 },
		func(m *api.Machine) { *m = shown(*m, api.MaxOut+1) },
	} {
		l = append(l, with(spoil))
	}
	return append(l, api.Machine{})
}

// refuses: does Make answer that error, and nothing else?
func refuses(t *testing.T, m api.Machine, by int, instance bool, name string, want api.Errno) {
	t.Helper()
	kept := twin(m)
	if y, e := outer.Make(m, by, instance, name); e != want || !isNone(y) {
		t.Errorf("Make %x %v %.40q: %v; want %v", by, instance, name, e, want)
	}
	if !alike(m, kept) {
		t.Errorf("Make %x changes its argument", by)
	}
}

// P12.1: what is wrong from the beginning is ErrArg, whatever else is due.
func TestWrongArguments(t *testing.T) {
	for _, m := range notFormed() {
		for _, by := range []int{byConstant, byValue, byVariable, byDefer, byBuffer, 0} {
			refuses(t, m, by, false, "x", api.ErrArg)
			refuses(t, m, by, true, "", api.ErrArg)
		}
		if y, n, e := outer.Lay(m, "a"); e != api.ErrArg || n != 0 || !isNone(y) {
			t.Error(n, e)
		}
		if _, _, e := outer.Lay(m, strings.Repeat("a", api.MaxMem+1)); e != api.ErrArg {
			t.Error(e)
		}
		for _, text := range []string{"", "5", "zz", "( x", ": x", strings.Repeat(" ", api.MaxText+1)} {
			errs(t, m, text, 10, api.ErrArg)
		}
	}
	for _, by := range []int{math.MinInt, -1, 0, 1, 0xb7, 0xbb, 0xbe, 0xbf, 0xc0, 0x1b8, 0xb8 - 256, 0xb8 + 1<<32, math.MaxInt} {
		for _, m := range []api.Machine{desk(), holding(atWork(desk(), bus), 1), wordy(desk(), api.MaxWords)} {
			refuses(t, m, by, false, "x", api.ErrArg)
			refuses(t, m, by, true, "x", api.ErrArg)
		}
	}
	for _, name := range []string{" ", "a b", "A", "aB", "\x00", "a\x7f", "\x80", "é", "a\n", strings.Repeat("n", api.MaxName+1)} {
		for _, by := range []int{byConstant, byValue, byVariable, byDefer, byBuffer} {
			refuses(t, holding(desk(), 1), by, false, name, api.ErrArg)
			refuses(t, sized(wordy(desk(), api.MaxWords), api.MaxMem), by, true, name, api.ErrArg)
		}
	}
	for _, fuel := range []int{math.MinInt, -1, api.MaxFuel + 1, math.MaxInt} {
		for _, text := range []string{"", "5", "zz", "( x", ": x", strings.Repeat(" ", api.MaxText+1)} {
			errs(t, desk(), text, fuel, api.ErrArg)
		}
	}
}

// P12.1: the errors of Make, each alone and with those that come behind it.
func TestMakeErrors(t *testing.T) {
	full := wordy(desk(), api.MaxWords)
	for _, m := range []api.Machine{holding(desk(), 1), sized(full, api.MaxMem), atWork(full, disk), holding(atWork(desk(), bus), 1)} {
		for _, by := range []int{byConstant, byVariable, byDefer, byBuffer} {
			refuses(t, m, by, true, "x", api.ErrControl)
		}
	}
	for _, c := range []struct {
		m        api.Machine
		by       int
		instance bool
		want     api.Errno
	}{
		{desk(), byConstant, false, api.ErrUnder}, {full, byConstant, false, api.ErrUnder}, {holding(full, 1), byConstant, false, api.ErrMany},
		{desk(), byValue, false, api.ErrUnder}, {full, byValue, false, api.ErrUnder}, {holding(full, 1), byValue, false, api.ErrMany},
		{full, byDefer, false, api.ErrMany},
		{sized(desk(), 4093), byVariable, false, api.ErrRoom}, {sized(full, 4096), byVariable, false, api.ErrRoom}, {sized(full, 4092), byVariable, false, api.ErrMany},
		{desk(), byBuffer, false, api.ErrUnder}, {sized(full, 4096), byBuffer, false, api.ErrUnder},
		{holding(desk(), 4089), byBuffer, false, api.ErrRoom}, {holding(desk(), math.MaxUint32), byBuffer, false, api.ErrRoom}, {holding(desk(), 1<<31), byBuffer, false, api.ErrRoom},
		{holding(full, 4089), byBuffer, false, api.ErrRoom}, {holding(full, 4088), byBuffer, false, api.ErrMany},
		{holding(desk(), 1), byValue, true, api.ErrNode}, {desk(), byValue, true, api.ErrNode}, {full, byValue, true, api.ErrNode}, {as(desk(), onDisk), byValue, true, api.ErrNode},
		{holding(atWork(desk(), disk), 1), byValue, true, api.ErrSelf}, {atWork(desk(), disk), byValue, true, api.ErrSelf}, {atWork(full, disk), byValue, true, api.ErrSelf},
		{atWork(desk(), bus), byValue, true, api.ErrUnder}, {atWork(full, bus), byValue, true, api.ErrUnder}, {atWork(celled(full, bus, api.MaxCells), bus), byValue, true, api.ErrUnder},
		{holding(atWork(celled(desk(), bus, api.MaxCells), bus), 1), byValue, true, api.ErrMany}, {holding(atWork(full, bus), 1), byValue, true, api.ErrMany},
		{holding(atWork(celled(full, bus, api.MaxCells), bus), 1), byValue, true, api.ErrMany},
	} {
		if !dict.Formed(c.m) {
			t.Fatal("not formed")
		}
		for _, name := range []string{"", "x"} {
			refuses(t, c.m, c.by, c.instance, name, c.want)
		}
	}
	// An instance that is alive with as many cells as there may be.
	alive := atWork(celled(full, disk, api.MaxCells), disk)
	alive.Insts[onDisk].Cells = many(api.MaxCells)
	refuses(t, alive, byValue, true, "x", api.ErrSelf)
}

// P12.1: MaxWords words are made in each way, one more is ErrMany.
func TestMaxWords(t *testing.T) {
	for _, c := range []struct {
		text string
		by   int
	}{
		{"constant x", byConstant}, {"value x", byValue}, {"variable x", byVariable}, {"defer x", byDefer}, {"buffer: x", byBuffer}, {": x ;", 0}, {"instance value x", byValue},
	} {
		last := holding(atWork(wordy(desk(), api.MaxWords-1), bus), 1)
		if y := done(t, last, c.text); len(y.Words) != api.MaxWords || y.Words[api.MaxWords-1].Name != "x" {
			t.Errorf("%s: %d words", c.text, len(y.Words))
		}
		errs(t, holding(atWork(wordy(desk(), api.MaxWords), bus), 1), c.text, plenty, api.ErrMany)
		if c.by == 0 {
			continue
		}
		if y, e := outer.Make(last, c.by, strings.HasPrefix(c.text, "instance"), ""); e != api.OK || len(y.Words) != api.MaxWords {
			t.Errorf("%x: %v", c.by, e)
		}
	}
	const all = api.MaxWords - api.Prims
	if y := done(t, dict.New(), strings.Repeat(": a ; ", all)); len(y.Words) != api.MaxWords {
		t.Error(len(y.Words))
	}
	errs(t, dict.New(), strings.Repeat(": a ; ", all+1), plenty, api.ErrMany)
	errs(t, dict.New(), strings.Repeat(": a ; ", all)+": a if ;", plenty, api.ErrControl)
	errs(t, dict.New(), strings.Repeat(": a ; ", all)+": a zz", plenty, api.ErrWord)
	// A definition that doesn't end isn't one word more.
	errs(t, dict.New(), strings.Repeat(": a ; ", all)+": a", plenty, api.ErrControl)
}

// P12.1: MaxCells cells of an instance, one more is ErrMany.
func TestMaxCells(t *testing.T) {
	text := ""
	for i := range api.MaxCells {
		text += fmt.Sprintf("%d instance value v%d ", 100+i, i)
	}
	y := done(t, atWork(desk(), 0), text)
	for i, x := range y.Tree[0].Cells {
		if w := later(y)[i]; x != uint32(100+i) || w.N != uint32(i) || w.Kind != api.WInst || w.Name != fmt.Sprintf("v%d", i) {
			t.Error(i, x, w)
		}
	}
	if len(y.Tree[0].Cells) != api.MaxCells {
		t.Error(y.Tree[0].Cells)
	}
	errs(t, y, "1 instance value x", plenty, api.ErrMany)
	errs(t, atWork(desk(), 0), text+"1 instance value x", plenty, api.ErrMany)
	leaves(t, y, "1 value x x", 1)
}

// P12.1: memory with just room for what is asked, and a byte too little.
func TestRoom(t *testing.T) {
	for _, n := range []int{0, 1, 2, 3, 4, 5, 6, 7, 8, 100, 254, 255} {
		s := strings.Repeat("s", n)
		for had := api.MaxMem - n - 8; had <= api.MaxMem; had++ {
			m := sized(desk(), had)
			want := api.OK
			if (had+3)/4*4+n > api.MaxMem {
				want = api.ErrRoom
			}
			for _, text := range []string{`" %s"`, `." %s"`, `.( %s)`, `: x " %s" ;`, `: x ." %s" ;`} {
				errs(t, m, fmt.Sprintf(text, s), plenty, want)
			}
			errs(t, m, fmt.Sprintf("d#%d buffer: x", n), plenty, want)
			if y, at, e := outer.Lay(m, s); e != want || e == api.OK && (int(at) != (had+3)/4*4 || len(y.Mem) != int(at)+n) || e != api.OK && (at != 0 || !isNone(y)) {
				t.Errorf("Lay of %d bytes behind %d: %d, %v", n, had, at, e)
			}
		}
	}
	for had := api.MaxMem - 8; had <= api.MaxMem; had++ {
		want := api.OK
		if had > api.MaxMem-4 {
			want = api.ErrRoom
		}
		errs(t, sized(desk(), had), "variable x", plenty, want)
	}
	for n := api.MaxMem - 2; n <= api.MaxMem+2; n++ {
		want := api.OK
		if n > api.MaxMem {
			want = api.ErrRoom
		}
		if y, at, e := outer.Lay(dict.New(), strings.Repeat("s", n)); e != want || at != 0 || e == api.OK && len(y.Mem) != n {
			t.Errorf("Lay of %d bytes: %v", n, e)
		}
		errs(t, dict.New(), fmt.Sprintf("%d buffer: x", n), plenty, want)
	}
	if _, _, e := outer.Lay(dict.New(), strings.Repeat("s", 1<<20)); e != api.ErrRoom {
		t.Error(e)
	}
}

// P12.1: MaxStack cells, one more is ErrOver.
func TestMaxStack(t *testing.T) {
	for free := range 4 {
		m := holding(desk(), many(api.MaxStack-free)...)
		for text, more := range map[string]int{"5": 1, "h#1f": 1, "' dup": 1, `" a"`: 2, `." a"`: 2, ".( a)": 2, "5 6": 2, `5 " a"`: 3, "k": 1, "1": 1} {
			want := api.OK
			if more > free {
				want = api.ErrOver
			}
			errs(t, m, text, plenty, want)
		}
		// What compiles puts nothing on the stack.
		errs(t, m, `: x 5 6 7 8 ['] dup " a" ." b" ;`, plenty, api.OK)
	}
	leaves(t, dict.New(), strings.Repeat("7 ", api.MaxStack), slices.Repeat(cells(7), api.MaxStack)...)
	errs(t, dict.New(), strings.Repeat("7 ", api.MaxStack+1), plenty, api.ErrOver)
}

// P12.1: MaxCode instructions, one more is ErrLong.
func TestMaxCode(t *testing.T) {
	fill := func(n int) string { return ": x " + strings.Repeat("5 ", n) }
	if y := done(t, desk(), fill(api.MaxCode)+";"); len(later(y)[0].Code) != api.MaxCode {
		t.Error(len(later(y)[0].Code))
	}
	for free := range 5 {
		for text, more := range map[string]int{
			"5": 1, "dup": 1, "k": 1, "exit": 1, "['] dup": 1, "to v": 1, "to dup": 1, `" a"`: 2, `." a"`: 3, ".( )": 3, "if then": 1, "if else then": 2, "begin again": 1, "begin until": 1,
			"begin while repeat": 2, "do loop": 2, "?do +loop": 2, "do leave loop": 3, "case endcase": 1, "case of endof endcase": 3, "begin begin begin again again again": 3,
		} {
			want := api.OK
			if more > free {
				want = api.ErrLong
			}
			errs(t, desk(), fill(api.MaxCode-free)+text+" ;", plenty, want)
		}
	}
	// Whoever is refused already has no ErrLong, and none comes ahead of it.
	full := fill(api.MaxCode)
	for text, want := range map[string]api.Errno{
		"zz": api.ErrWord, "[']": api.ErrText, "['] zz": api.ErrWord, `['] " a"`: api.ErrText, "to": api.ErrText, "to zz": api.ErrWord, "then": api.ErrControl, "else": api.ErrControl,
		"again": api.ErrControl, "until": api.ErrControl, "repeat": api.ErrControl, "loop": api.ErrControl, "+loop": api.ErrControl, "leave": api.ErrControl, "of": api.ErrControl,
		"endof": api.ErrControl, "endcase": api.ErrControl, "case endof": api.ErrControl, ":": api.ErrControl, "constant y": api.ErrControl, "'": api.ErrControl, "begin ;": api.ErrControl, "": api.ErrControl,
		"if": api.ErrLong, "while": api.ErrLong, "do": api.ErrLong, "?do": api.ErrLong, "begin again": api.ErrLong, "begin until": api.ErrLong, "begin repeat": api.ErrLong, "case of": api.ErrLong, "case endcase": api.ErrLong,
	} {
		errs(t, desk(), full+text, plenty, want)
	}
	errs(t, desk(), fill(api.MaxCode-1)+"if else", plenty, api.ErrLong)
	errs(t, desk(), fill(api.MaxCode-1)+"begin repeat", plenty, api.ErrControl)
	errs(t, sized(desk(), api.MaxMem), full+`" a"`, plenty, api.ErrRoom)
	errs(t, sized(desk(), api.MaxMem), full+`" "`, plenty, api.ErrLong)
}

// P12.1: texts of MaxText bytes, one more is ErrLong, ahead of all that the text does.
func TestMaxText(t *testing.T) {
	for _, text := range []string{"5", "zz", "if", ": x", "drop", "( x", `" x`} {
		long := text + strings.Repeat(" ", api.MaxText-len(text))
		_, _, want := eval(t, desk(), text, plenty)
		errs(t, desk(), long, plenty, want)
		errs(t, desk(), long+" ", plenty, api.ErrLong)
		errs(t, desk(), long+long, 0, api.ErrLong)
	}
	leaves(t, desk(), strings.Repeat("7 drop ", api.MaxText/7))
	leaves(t, desk(), strings.Repeat(" ", api.MaxText-1)+"5", 5)
}

// P12.1: what a text takes of fuel: with just so much nothing is left, with more as much more, with less it is ErrFuel.
func TestFuel(t *testing.T) {
	for text, steps := range map[string]int{
		"": 0, "5": 0, "1": 1, "5 dup": 1, ": x dup dup ;": 0, "5 value y 6 to y": 0, "variable y defer z 9 buffer: w": 0, "' dup drop": 1, `" a"`: 0, `." a"`: 1, `: x ." a" ; x`: 1 + 3 + 1,
		": sq dup * ; 7 sq": 5, ": x ; x x x": 3, ": c 10 0 do i loop ; c": 1 + 1 + 2 + 1 + 10*3, "' dup to d 4 d": 2, ": e exit ; e": 2, "4 twice twice": 10,
		": t ['] dup ; t": 2, ": t to v ; 4 t": 2, "1 2 3": 3, "d#1 d#2 d#3": 0, ": y 5 throw ; ' y catch": 1 + 1 + 1 + 2,
	} {
		for _, more := range []int{0, 1, 2, 1000, api.MaxFuel - steps} {
			if _, left, e := eval(t, desk(), text, steps+more); e != api.OK || left != more {
				t.Errorf("%q with %d steps: %d left, %v; want %d left", text, steps+more, left, e, more)
			}
		}
		for less := 1; less <= steps; less++ {
			errs(t, desk(), text, steps-less, api.ErrFuel)
		}
	}
	errs(t, desk(), ": x begin again ; x", api.MaxFuel, api.ErrFuel)
	errs(t, desk(), ": x begin again ; ' x catch", api.MaxFuel, api.ErrFuel)
	// The error of a word comes behind that of its step, that of no word ahead.
	errs(t, desk(), "drop", 0, api.ErrFuel)
	errs(t, desk(), "zz", 0, api.ErrWord)
	errs(t, desk(), "if", 0, api.ErrControl)
	errs(t, desk(), "1 zz", 0, api.ErrFuel)
	errs(t, desk(), "1 zz", 1, api.ErrWord)
}

// P12.1: each word in the state in which it is ErrControl, whatever stands behind it.
func TestControl(t *testing.T) {
	ways := []string{"", " x", ` " a"`, " ;", " 5", " value y"}
	for _, behind := range ways {
		for _, word := range strings.Fields("; exit ['] if else then begin again until while repeat do ?do loop +loop leave case of endof endcase") {
			errs(t, desk(), word+behind, plenty, api.ErrControl)
			errs(t, desk(), strings.ToUpper(word)+behind, 0, api.ErrControl)
			// That there is a word of that name changes nothing.
			errs(t, desk(), ": "+word+" 5 ; "+word+behind, plenty, api.ErrControl)
			errs(t, desk(), ": a ; "+word+behind, plenty, api.ErrControl)
		}
		for _, word := range strings.Fields(": constant value variable defer buffer: instance '") {
			errs(t, desk(), ": x "+word+behind, plenty, api.ErrControl)
			errs(t, holding(desk(), 1, 2), ": x 5 "+strings.ToUpper(word)+behind, plenty, api.ErrControl)
			errs(t, desk(), "9 constant "+word+" : x "+word+behind, plenty, api.ErrControl)
		}
		// Words that want something newest of a draft, where it has nothing.
		for _, word := range strings.Fields("else then again until repeat loop +loop leave of endof endcase") {
			errs(t, desk(), ": x "+word+behind, plenty, api.ErrControl)
		}
	}
	for _, open := range []string{"if", "if else", "begin", "begin while", "while", "do", "?do", "do leave", "case", "case 5 of", "case 5 of endof", "if begin do case"} {
		errs(t, desk(), ": x "+open+" ;", plenty, api.ErrControl)
		errs(t, desk(), ": x "+open, plenty, api.ErrControl)
		errs(t, wordy(desk(), api.MaxWords), ": x "+open+" ;", plenty, api.ErrControl)
	}
	// A definition that doesn't end.
	for _, text := range []string{": x", ": x 5", ": x \\ ;", `: x " ;"`, ": x .( ;)", ": x ( ; )", ": x ; : y", ": ; 5", ": : : ;"} {
		errs(t, desk(), text, plenty, api.ErrControl)
	}
	// Of case: an of within one that stands open, an end without one.
	for _, text := range []string{"case endof", "case 5 of 6 of", "case 5 of endcase", "case 5 of endof endof"} {
		errs(t, desk(), ": x "+text, plenty, api.ErrControl)
	}
}

// P12.1: names that words ask for: none there, a text there, names that no word may have, names of no word.
func TestNames(t *testing.T) {
	long := strings.Repeat("n", api.MaxName)
	for _, m := range []api.Machine{
		desk(), holding(desk(), many(api.MaxStack)...), sized(wordy(desk(), api.MaxWords), api.MaxMem), holding(atWork(desk(), bus), 5), atWork(celled(desk(), bus, api.MaxCells), bus), atWork(desk(), disk),
	} {
		for _, word := range strings.Fields(": constant value variable defer buffer: instance_value") {
			word = strings.ReplaceAll(word, "_", " ")
			for _, name := range []string{"", "( x )", "\\ x", `" x"`, `." x"`, ".( x)", long + "n", "é", "\x7f", "a\x80", "x\xff"} {
				errs(t, m, word+" "+name, plenty, api.ErrText)
			}
		}
		for _, word := range []string{"'", "to", ": x [']", ": x to"} {
			for _, name := range []string{"", "( x )", "\\ dup", `" dup"`, `." dup"`, ".( dup)"} {
				errs(t, m, word+" "+name, plenty, api.ErrText)
			}
			for _, name := range []string{"zz", long + "n", "é", "5", ";", ":", "if", "value"} {
				errs(t, m, word+" "+name, plenty, api.ErrWord)
			}
		}
		for _, rest := range []string{"", "x", "5", "valu", "values", "constant x", "variable x", "defer x", "buffer: x", ": x ;", `" value" x`, `." value" x`, "instance value x", "( value ) x", "dup"} {
			errs(t, m, "instance "+rest, plenty, api.ErrText)
		}
	}
	for _, word := range strings.Fields(": constant value variable defer buffer: instance_value") {
		text := "5 " + strings.ReplaceAll(word, "_", " ") + " " + long
		if word == ":" {
			text += " ;"
		}
		if y := done(t, atWork(desk(), bus), text); later(y)[0].Name != long {
			t.Error(text)
		}
	}
	// Notes may stand between a word and its name.
	leaves(t, desk(), ": ( a ) x \\ b\n 5 ; 6 constant \\ c\n y ' ( d ) x drop x y", 5, 6)
}

// P12.1: the errors of each kind of token, each alone and with those that come behind it.
func TestOrder(t *testing.T) {
	full := holding(desk(), many(api.MaxStack)...)
	noRoom := sized(desk(), api.MaxMem)
	both := sized(full, api.MaxMem)
	one := holding(desk(), many(api.MaxStack-1)...)
	for _, c := range []struct {
		m    api.Machine
		text string
		fuel int
		want api.Errno
	}{
		// Layer 6's errors are those of the whole text.
		{desk(), `drop " x`, 9, api.ErrText}, {desk(), "if ( x", 9, api.ErrText}, {desk(), `zz " a"b`, 0, api.ErrText}, {desk(), `: x .( y`, 9, api.ErrText}, {desk(), `1 " "(4)"`, 0, api.ErrText},
		{desk(), `zz ." ` + strings.Repeat("x", 256) + `"`, 9, api.ErrLong}, {desk(), `zz .( ` + strings.Repeat("x", 256) + `) " y`, 9, api.ErrLong}, {desk(), `zz " y`, 9, api.ErrText},
		// Of a text.
		{both, `" a"`, 9, api.ErrRoom}, {both, `." a"`, 0, api.ErrRoom}, {full, `" a"`, 9, api.ErrOver}, {one, `." a"`, 0, api.ErrOver}, {shown(desk(), api.MaxOut), `." a"`, 0, api.ErrFuel},
		{shown(desk(), api.MaxOut), `." a"`, 1, api.ErrOut}, {shown(desk(), api.MaxOut-1), `." a"`, 1, api.OK}, {shown(desk(), api.MaxOut-1), `.( ab)`, 1, api.ErrOut},
		{shown(desk(), api.MaxOut), `." "`, 1, api.OK}, {noRoom, `: x " a" zz ;`, 9, api.ErrRoom}, {noRoom, `: x zz " a" ;`, 9, api.ErrWord}, {shown(desk(), api.MaxOut), `: x ." a" ;`, 0, api.OK},
		// Of ' and to.
		{full, "' zz", 9, api.ErrWord}, {full, "'", 9, api.ErrText}, {full, "' dup", 9, api.ErrOver}, {desk(), "to", 9, api.ErrText}, {desk(), "to zz", 9, api.ErrWord}, {desk(), "to dup", 9, api.ErrWord},
		{desk(), "to k", 9, api.ErrWord}, {desk(), "to var", 9, api.ErrWord}, {desk(), "to twice", 9, api.ErrWord}, {desk(), "5 to k", 9, api.ErrWord}, {desk(), "to v", 9, api.ErrUnder}, {desk(), "to d", 9, api.ErrUnder},
		{desk(), "to c", 9, api.ErrUnder}, {desk(), "5 to c", 9, api.ErrSelf}, {desk(), "d#117 to d", 9, api.ErrWord}, {desk(), "d#116 to d", 9, api.OK}, {desk(), "-5 to d", 9, api.ErrWord},
		{as(desk(), onDisk), "5 to c", 0, api.OK}, {desk(), ": x to dup ;", 0, api.OK}, {desk(), ": x to dup ; x", 9, api.ErrWord}, {desk(), ": x to v ; x", 9, api.ErrUnder},
		// Of words that make words.
		{desk(), "constant x", 9, api.ErrUnder}, {desk(), "value x", 9, api.ErrUnder}, {desk(), "buffer: x", 9, api.ErrUnder}, {noRoom, "buffer: x", 9, api.ErrUnder}, {noRoom, "variable x", 9, api.ErrRoom},
		{noRoom, "1 buffer: x", 9, api.ErrRoom}, {noRoom, "1 buffer: x", 0, api.ErrFuel}, {noRoom, "0 buffer: x", 9, api.OK}, {desk(), "5 instance value x", 9, api.ErrNode}, {desk(), "instance value x", 9, api.ErrNode},
		{atWork(desk(), disk), "5 instance value x", 9, api.ErrSelf}, {atWork(desk(), disk), "instance value x", 9, api.ErrSelf}, {atWork(desk(), bus), "instance value x", 9, api.ErrUnder},
		{atWork(celled(desk(), bus, api.MaxCells), bus), "instance value x", 9, api.ErrUnder}, {atWork(celled(desk(), bus, api.MaxCells), bus), "5 instance value x", 9, api.ErrMany},
		// Of numbers and words.
		{full, "5", 9, api.ErrOver}, {full, "zz", 9, api.ErrWord}, {full, "if", 9, api.ErrControl}, {full, "dup", 0, api.ErrFuel}, {full, "dup", 1, api.ErrOver}, {desk(), "dup", 1, api.ErrUnder},
		{desk(), ">r", 9, api.ErrUnder}, {desk(), "5 >r", 9, api.ErrRet}, {desk(), "r>", 9, api.ErrRet}, {desk(), "i", 9, api.ErrRet}, {desk(), "5 throw", 9, api.ErrThrow}, {desk(), "5 0 /", 9, api.ErrZero},
		{desk(), "1 @", 9, api.ErrAlign}, {desk(), "4 @", 9, api.ErrAddr}, {desk(), "37 base!", 9, api.ErrArg}, {desk(), "999 execute", 9, api.ErrWord}, {desk(), "999 catch", 9, api.ErrWord},
		{desk(), `4 2 0 0 property`, 9, api.ErrNode}, {desk(), `0 " a/" new-device`, 9, api.ErrArg}, {atWork(desk(), 0), `31 0 2 " bus" new-device`, 9, api.ErrExist}, {desk(), "my-parent", 9, api.ErrSelf},
		{desk(), "c", 9, api.ErrSelf}, {desk(), `" zz" 2 $call-method`, 9, api.ErrMethod}, {desk(), `4097 alloc-mem`, 9, api.ErrRoom}, {desk(), "0 1 1 um/mod", 9, api.ErrRange}, {desk(), "4 1 decode-string", 9, api.ErrNone},
		{desk(), ": r 5 >r ; r", 9, api.ErrRet}, {desk(), "defer q ' q to q q", 99, api.ErrFuel},
		// The first place counts.
		{desk(), "zz if", 9, api.ErrWord}, {desk(), "if zz", 9, api.ErrControl}, {desk(), "drop zz", 9, api.ErrUnder}, {desk(), "zz drop", 9, api.ErrWord}, {desk(), ": x zz if", 9, api.ErrWord},
		{desk(), ": x then zz", 9, api.ErrControl}, {desk(), ": x drop ; zz", 9, api.ErrWord}, {desk(), ": x drop ; x zz", 9, api.ErrUnder}, {desk(), "constant", 9, api.ErrText}, {desk(), ": x if ; zz", 9, api.ErrControl},
		{desk(), "5 throw zz", 9, api.ErrThrow}, {desk(), "' zz if", 9, api.ErrWord}, {desk(), ": x ; ;", 9, api.ErrControl}, {desk(), ": x ;; ;", 9, api.ErrWord}, {desk(), ":;", 9, api.ErrWord},
	} {
		errs(t, c.m, c.text, c.fuel, c.want)
	}
}

// P12.1: a definition isn't known by its own name till it ends; what was called so ahead of it is meant.
func TestOwnName(t *testing.T) {
	errs(t, desk(), ": r r ;", plenty, api.ErrWord)
	errs(t, desk(), ": r ['] r ;", plenty, api.ErrWord)
	errs(t, desk(), ": r to r ;", plenty, api.ErrWord)
	leaves(t, desk(), ": k k 1 + ; k : k k k + ; k", 8, 16)
	// A deferred word is the way to one that is run within itself.
	leaves(t, desk(), "defer r : down dup if dup 1 - r then ; ' down to r 3 r", 3, 2, 1, 0)
}
