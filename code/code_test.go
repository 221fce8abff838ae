package code_test

import (
	"math"
	"slices"
	"testing"

	"tinder/api"
	"tinder/code"
)

const (
	// size is how many instructions the draft of wide has.
	size = 13
	// far is the N of an instruction that nothing has led anywhere.
	far = 900
)

// wide: a formed draft with two of all that may be open; no of stands open in the newest case.
func wide() api.Draft {
	d := api.Draft{
		Origs: []int{1, 2},
		Dests: []int{4, size},
		Loops: []api.Open{{At: 3, Outs: []int{4}}, {At: 5, Outs: []int{6, 7}}},
		Cases: []api.Open{{At: 8, Outs: []int{9}}, {At: -1, Outs: []int{10, 11}}},
	}
	for i, kind := range []int{
		api.OLit, api.OZero, api.OBranch, api.ODo, api.OLeave, api.OQDo, api.OLeave, api.OLeave,
		api.OOf, api.OBranch, api.OBranch, api.OBranch, api.OOf,
	} {
		d.Code = append(d.Code, api.Op{Kind: kind, N: uint32(far + i)})
	}
	return d
}

// inOf: likewise, but an of stands open in the newest case.
func inOf() api.Draft {
	d := wide()
	d.Cases[1].At = 12
	return d
}

// padded: the draft with so many instructions, those behind its own being OLits.
func padded(d api.Draft, n int) api.Draft {
	for len(d.Code) < n {
		d.Code = append(d.Code, api.Op{Kind: api.OLit, N: far})
	}
	return d
}

func sameOpen(a, b api.Open) bool { return a.At == b.At && slices.Equal(a.Outs, b.Outs) }

// same: are both drafts the same, where nil and empty lists are?
func same(a, b api.Draft) bool {
	return slices.Equal(a.Code, b.Code) && slices.Equal(a.Origs, b.Origs) && slices.Equal(a.Dests, b.Dests) &&
		slices.EqualFunc(a.Loops, b.Loops, sameOpen) && slices.EqualFunc(a.Cases, b.Cases, sameOpen)
}

// An entry tells an act: the draft that it is done on, which instruction it lays (Kind 0: none), and what else becomes of the draft, whose number of instructions was at.
type entry struct {
	name  string
	act   int
	of    func() api.Draft
	lays  api.Op
	turns func(d *api.Draft, at int)
}

// lead: these instructions lead there.
func lead(d *api.Draft, to int, numbers ...int) {
	for _, n := range numbers {
		d.Code[n].N = uint32(to)
	}
}

func entries() []entry {
	endLoop := func(d *api.Draft, at int) {
		d.Loops = d.Loops[:1]
		lead(d, at+1, 5, 6, 7)
	}
	return []entry{
		{"if", api.AIf, wide, api.Op{Kind: api.OZero}, func(d *api.Draft, at int) { d.Origs = []int{1, 2, at} }},
		{"ahead", api.AAhead, wide, api.Op{Kind: api.OBranch}, func(d *api.Draft, at int) { d.Origs = []int{1, at, 2} }},
		{"then", api.AThen, wide, api.Op{}, func(d *api.Draft, at int) { d.Origs = []int{1}; lead(d, at, 2) }},
		{"begin", api.ABegin, wide, api.Op{}, func(d *api.Draft, at int) { d.Dests = []int{4, size, at} }},
		{"again", api.AAgain, wide, api.Op{Kind: api.OBranch, N: size}, func(d *api.Draft, at int) { d.Dests = []int{4} }},
		{"until", api.AUntil, wide, api.Op{Kind: api.OZero, N: size}, func(d *api.Draft, at int) { d.Dests = []int{4} }},
		{"do", api.ADo, wide, api.Op{Kind: api.ODo}, func(d *api.Draft, at int) { d.Loops = append(d.Loops, api.Open{At: at}) }},
		{"?do", api.AQDo, wide, api.Op{Kind: api.OQDo}, func(d *api.Draft, at int) { d.Loops = append(d.Loops, api.Open{At: at}) }},
		{"loop", api.ALoop, wide, api.Op{Kind: api.OLoop, N: 6}, endLoop},
		{"+loop", api.APlus, wide, api.Op{Kind: api.OPlus, N: 6}, endLoop},
		{"leave", api.ALeave, wide, api.Op{Kind: api.OLeave}, func(d *api.Draft, at int) { d.Loops[1].Outs = []int{6, 7, at} }},
		{"case", api.ACase, wide, api.Op{}, func(d *api.Draft, at int) { d.Cases = append(d.Cases, api.Open{At: -1}) }},
		{"case in of", api.ACase, inOf, api.Op{}, func(d *api.Draft, at int) { d.Cases = append(d.Cases, api.Open{At: -1}) }},
		{"of", api.AOf, wide, api.Op{Kind: api.OOf}, func(d *api.Draft, at int) { d.Cases[1].At = at }},
		{"endof", api.AEndof, inOf, api.Op{Kind: api.OBranch}, func(d *api.Draft, at int) {
			d.Cases[1] = api.Open{At: -1, Outs: []int{10, 11, at}}
			lead(d, at+1, 12)
		}},
		{"endcase", api.AEndcase, wide, api.Op{Kind: api.ODrop}, func(d *api.Draft, at int) {
			d.Cases = d.Cases[:1]
			lead(d, at+1, 10, 11)
		}},
	}
}

// P10.1: each act does what is said, on drafts from short ones to those with room for one instruction more or for none.
func TestActs(t *testing.T) {
	for _, x := range entries() {
		for _, n := range []int{size, size + 1, 200, api.MaxCode - 1, api.MaxCode} {
			want := padded(x.of(), n)
			if x.lays.Kind != 0 && n == api.MaxCode {
				if d, e := code.Act(want, x.act); !same(d, api.Draft{}) || e != api.ErrLong {
					t.Errorf("%s of %d instructions: %v, %v; want ErrLong", x.name, n, d, e)
				}
				continue
			}
			if x.lays.Kind != 0 {
				want.Code = append(want.Code, x.lays)
			}
			x.turns(&want, n)
			d, e := code.Act(padded(x.of(), n), x.act)
			if e != api.OK || !same(d, want) || !code.Formed(d) {
				t.Errorf("%s of %d instructions: %v, %v; want %v", x.name, n, d, e, want)
			}
		}
	}
}

// P10.1: where nothing newest is there that an act asks for, it is ErrControl, also where there is no room.
func TestActsAskForTheNewest(t *testing.T) {
	noOrigs := func(d *api.Draft) { d.Origs = nil }
	noDests := func(d *api.Draft) { d.Dests = nil }
	noLoops := func(d *api.Draft) { d.Loops = nil }
	noCases := func(d *api.Draft) { d.Cases = nil }
	open := func(d *api.Draft) { d.Cases[1].At = 12 }
	for _, x := range []struct {
		name  string
		act   int
		lacks []func(d *api.Draft)
	}{
		{"if", api.AIf, nil}, {"begin", api.ABegin, nil}, {"do", api.ADo, nil}, {"?do", api.AQDo, nil}, {"case", api.ACase, nil},
		{"ahead", api.AAhead, []func(d *api.Draft){noOrigs}}, {"then", api.AThen, []func(d *api.Draft){noOrigs}},
		{"again", api.AAgain, []func(d *api.Draft){noDests}}, {"until", api.AUntil, []func(d *api.Draft){noDests}},
		{"loop", api.ALoop, []func(d *api.Draft){noLoops}}, {"+loop", api.APlus, []func(d *api.Draft){noLoops}},
		{"leave", api.ALeave, []func(d *api.Draft){noLoops}},
		{"of", api.AOf, []func(d *api.Draft){noCases, open}}, {"endcase", api.AEndcase, []func(d *api.Draft){noCases, open}},
		// In wide no of stands open in the newest case, while one does in the case below it.
		{"endof", api.AEndof, []func(d *api.Draft){noCases, func(d *api.Draft) {}}},
	} {
		for i, lack := range x.lacks {
			for _, n := range []int{size, api.MaxCode - 1, api.MaxCode} {
				of := padded(wide(), n)
				lack(&of)
				if d, e := code.Act(of, x.act); !same(d, api.Draft{}) || e != api.ErrControl {
					t.Errorf("%s, cause %d of %d instructions: %v, %v; want ErrControl", x.name, i, n, d, e)
				}
			}
		}
		want := api.OK
		if x.lacks != nil {
			want = api.ErrControl
		}
		if d, e := code.Act(api.Draft{}, x.act); e != want || !code.Formed(d) {
			t.Errorf("%s of nothing: %v, %v; want %v", x.name, d, e, want)
		}
	}
}

// P10.1: a number that is no act's is ErrArg, whatever else is due.
func TestNoAct(t *testing.T) {
	for _, act := range []int{math.MinInt, -1 << 32, -16, -1, 0, 16, 17, 256 + api.AIf, 1<<32 + api.ABegin, math.MaxInt} {
		for _, of := range []api.Draft{{}, wide(), inOf(), padded(wide(), api.MaxCode), padded(api.Draft{}, api.MaxCode), {Origs: []int{0}}} {
			if d, e := code.Act(of, act); !same(d, api.Draft{}) || e != api.ErrArg {
				t.Errorf("the act %d: %v, %v; want ErrArg", act, d, e)
			}
		}
	}
}

// P10.1: Put lays what may be put, with whatever number, and nothing else.
func TestPut(t *testing.T) {
	for _, kind := range []int{math.MinInt, -1, 0, 14, 15, 256 + api.OLit, 1<<32 + api.OCall, math.MaxInt} {
		for _, of := range []api.Draft{{}, wide(), padded(wide(), api.MaxCode)} {
			if d, e := code.Put(of, api.Op{Kind: kind}); !same(d, api.Draft{}) || e != api.ErrArg {
				t.Errorf("an instruction of kind %d: %v, %v; want ErrArg", kind, d, e)
			}
		}
	}
	for kind := api.OLit; kind <= api.OTo; kind++ {
		taken := kind == api.OLit || kind == api.OCall || kind == api.OExit || kind == api.OTo
		for _, n := range []uint32{0, 7, 256, 1<<32 - 1} {
			o := api.Op{Kind: kind, N: n}
			for _, of := range []api.Draft{{}, wide(), inOf(), padded(wide(), api.MaxCode-1), padded(wide(), api.MaxCode)} {
				want, due := of, api.OK
				switch {
				case !taken:
					want, due = api.Draft{}, api.ErrArg
				case len(of.Code) == api.MaxCode:
					want, due = api.Draft{}, api.ErrLong
				default:
					want.Code = append(slices.Clone(of.Code), o)
				}
				d, e := code.Put(of, o)
				if e != due || !same(d, want) || !code.Formed(d) {
					t.Errorf("Put %v behind %d instructions: %v, %v; want %v, %v", o, len(of.Code), d, e, want, due)
				}
			}
		}
	}
}

// P10.1: Finish answers the code, of whatever instructions, unless something is open.
func TestFinish(t *testing.T) {
	bare := api.Draft{Code: wide().Code}
	for _, d := range []api.Draft{{}, {Code: []api.Op{}}, bare, padded(bare, api.MaxCode-1), padded(bare, api.MaxCode), {Code: []api.Op{{Kind: -5, N: 9}}}} {
		if l, e := code.Finish(d); !slices.Equal(l, d.Code) || e != api.OK {
			t.Errorf("Finish of %d instructions: %v, %v", len(d.Code), l, e)
		}
	}
	whole := wide()
	for name, d := range map[string]api.Draft{
		"Origs":   {Code: whole.Code, Origs: whole.Origs},
		"Dests":   {Code: whole.Code, Dests: whole.Dests},
		"Dests 0": {Dests: []int{0}},
		"Loops":   {Code: whole.Code, Loops: whole.Loops},
		"Cases":   {Code: whole.Code, Cases: whole.Cases},
		"Cases 0": {Cases: []api.Open{{At: -1}}},
		"all":     whole,
	} {
		if l, e := code.Finish(d); len(l) != 0 || e != api.ErrControl {
			t.Errorf("Finish with %s open: %v, %v; want ErrControl", name, l, e)
		}
	}
}

// A placed is a list of a draft that holds instructions' numbers: how one is set in it, which kinds it takes, and whether it takes -1.
type placed struct {
	name  string
	set   func(d *api.Draft, n int)
	kinds []int
	none  bool
}

func lists() []placed {
	return []placed{
		{"Origs", func(d *api.Draft, n int) { d.Origs[0] = n }, []int{api.OBranch, api.OZero}, false},
		{"the newest of Origs", func(d *api.Draft, n int) { d.Origs[1] = n }, []int{api.OBranch, api.OZero}, false},
		{"Loops' At", func(d *api.Draft, n int) { d.Loops[0].At = n }, []int{api.ODo, api.OQDo}, false},
		{"the newest loop's At", func(d *api.Draft, n int) { d.Loops[1].At = n }, []int{api.ODo, api.OQDo}, false},
		{"Loops' Outs", func(d *api.Draft, n int) { d.Loops[0].Outs[0] = n }, []int{api.OLeave}, false},
		{"the newest loop's last Out", func(d *api.Draft, n int) { d.Loops[1].Outs[1] = n }, []int{api.OLeave}, false},
		{"Cases' At", func(d *api.Draft, n int) { d.Cases[0].At = n }, []int{api.OOf}, true},
		{"the newest case's At", func(d *api.Draft, n int) { d.Cases[1].At = n }, []int{api.OOf}, true},
		{"Cases' Outs", func(d *api.Draft, n int) { d.Cases[0].Outs[0] = n }, []int{api.OBranch}, false},
		{"the newest case's last Out", func(d *api.Draft, n int) { d.Cases[1].Outs[1] = n }, []int{api.OBranch}, false},
	}
}

// hold: is the draft formed, as is said, and is ErrArg all that the others answer of it, where it isn't?
func hold(t *testing.T, name string, d api.Draft, formed bool) {
	t.Helper()
	if code.Formed(d) != formed {
		t.Errorf("%s: formed %v; want %v", name, !formed, formed)
	}
	if formed {
		return
	}
	for _, act := range []int{math.MinInt, 0, api.AIf, api.AAhead, api.AThen, api.ABegin, api.AAgain, api.AUntil, api.ADo, api.AQDo,
		api.ALoop, api.APlus, api.ALeave, api.ACase, api.AOf, api.AEndof, api.AEndcase, 16} {
		if y, e := code.Act(d, act); !same(y, api.Draft{}) || e != api.ErrArg {
			t.Errorf("%s: the act %d: %v, %v; want ErrArg", name, act, y, e)
		}
	}
	for _, kind := range []int{0, api.OLit, api.OCall, api.OBranch, api.OExit, api.OTo} {
		if y, e := code.Put(d, api.Op{Kind: kind}); !same(y, api.Draft{}) || e != api.ErrArg {
			t.Errorf("%s: Put of kind %d: %v, %v; want ErrArg", name, kind, y, e)
		}
	}
	if l, e := code.Finish(d); len(l) != 0 || e != api.ErrArg {
		t.Errorf("%s: Finish: %v, %v; want ErrArg", name, l, e)
	}
}

// P10.1: a draft is formed just where each number is one of an instruction of a kind that its list takes; the number alone being wrong, all are refused.
func TestNumbersFormed(t *testing.T) {
	for _, x := range lists() {
		for kind := -1; kind <= 14; kind++ {
			for _, end := range []int{0, size} {
				d := wide()
				// An instruction ahead of all others or behind them, so that it is the first or the last.
				if end == 0 {
					d = shifted(d, api.Op{Kind: kind})
				} else {
					d.Code = append(d.Code, api.Op{Kind: kind})
				}
				x.set(&d, end)
				hold(t, x.name, d, slices.Contains(x.kinds, kind))
			}
		}
		for _, n := range []int{math.MinInt, -1 << 32, -far, -2, -1, size, size + 1, api.MaxCode, 1 << 32, 1<<32 + 1, math.MaxInt} {
			d := wide()
			x.set(&d, n)
			hold(t, x.name, d, n == -1 && x.none)
			full := padded(wide(), api.MaxCode)
			x.set(&full, n)
			hold(t, x.name, full, n == -1 && x.none)
		}
	}
}

// shifted: the draft with the instruction ahead of all others.
func shifted(d api.Draft, o api.Op) api.Draft {
	d.Code = append([]api.Op{o}, d.Code...)
	up := func(l []int) {
		for i := range l {
			l[i]++
		}
	}
	up(d.Origs)
	up(d.Dests)
	for _, l := range [][]api.Open{d.Loops, d.Cases} {
		for i := range l {
			up(l[i].Outs)
			if l[i].At >= 0 {
				l[i].At++
			}
		}
	}
	return d
}

// P10.1: a place to come back to is from 0 to the number of instructions.
func TestDestsFormed(t *testing.T) {
	for _, n := range []int{0, size, api.MaxCode - 1, api.MaxCode} {
		base := wide()
		if n < size {
			base = api.Draft{Dests: []int{0, 0}}
		}
		for _, to := range []int{math.MinInt, -far, -2, -1, 0, n / 2, n - 1, n, n + 1, n + 2, 1 << 32, math.MaxInt} {
			for i := range 2 {
				d := padded(base, n)
				d.Dests = slices.Clone(base.Dests)
				d.Dests[i] = to
				hold(t, "Dests", d, to >= 0 && to <= n)
			}
		}
	}
}

// P10.1: a draft has at most MaxCode instructions, of whatever kinds and numbers; its other lists may be of any length.
func TestSizeFormed(t *testing.T) {
	for _, n := range []int{0, 1, api.MaxCode - 1, api.MaxCode, api.MaxCode + 1, api.MaxCode + 2, 5000} {
		hold(t, "its size", padded(api.Draft{}, n), n <= api.MaxCode)
	}
	hold(t, "more than MaxCode", padded(wide(), api.MaxCode+1), false)
	hold(t, "odd kinds", api.Draft{Code: []api.Op{{}, {Kind: -1}, {Kind: math.MaxInt, N: 1<<32 - 1}, {Kind: math.MinInt}}}, true)
	d := wide()
	for range 300 {
		d.Origs = append(d.Origs, 1)
		d.Dests = append(d.Dests, 0)
		d.Loops = append(d.Loops, api.Open{At: 3})
		d.Cases = append(d.Cases, api.Open{At: -1})
		d.Loops[0].Outs = append(d.Loops[0].Outs, 4)
		d.Cases[0].Outs = append(d.Cases[0].Outs, 9)
	}
	hold(t, "long lists", d, true)
}

// P10.1: the chapter's examples.
func TestExamples(t *testing.T) {
	lit := func(n uint32) step { return step{op: api.Op{Kind: api.OLit, N: n}} }
	for _, x := range []struct {
		row  []step
		want []api.Op
	}{
		{
			[]step{{act: api.AIf}, lit(1), {act: api.AAhead}, {act: api.AThen}, lit(2), {act: api.AThen}},
			[]api.Op{{Kind: api.OZero, N: 3}, {Kind: api.OLit, N: 1}, {Kind: api.OBranch, N: 4}, {Kind: api.OLit, N: 2}},
		},
		{[]step{{act: api.ABegin}, {act: api.AUntil}}, []api.Op{{Kind: api.OZero, N: 0}}},
		{
			[]step{{act: api.ADo}, {act: api.ALeave}, {act: api.ALoop}},
			[]api.Op{{Kind: api.ODo, N: 3}, {Kind: api.OLeave, N: 3}, {Kind: api.OLoop, N: 1}},
		},
	} {
		d, e := build(api.Draft{}, x.row)
		l, f := code.Finish(d)
		if e != api.OK || f != api.OK || !slices.Equal(l, x.want) {
			t.Errorf("%v: %v, %v, %v; want %v", x.row, l, e, f, x.want)
		}
	}
	if d, e := code.Act(api.Draft{}, api.AThen); !same(d, api.Draft{}) || e != api.ErrControl {
		t.Errorf("then alone: %v, %v; want ErrControl", d, e)
	}
}
