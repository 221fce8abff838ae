package code_test

import (
	"math/rand"
	"slices"
	"testing"

	"tinder/api"
	"tinder/code"
)

// A step is an act, or an instruction that is put (act 0).
type step struct {
	act int
	op  api.Op
}

func (s step) take(d api.Draft) (api.Draft, api.Errno) {
	if s.act == 0 {
		return code.Put(d, s.op)
	}
	return code.Act(d, s.act)
}

// build: the draft behind all steps, or the first error.
func build(d api.Draft, row []step) (api.Draft, api.Errno) {
	for _, s := range row {
		y, e := s.take(d)
		if e != api.OK {
			return api.Draft{}, e
		}
		d = y
	}
	return d, api.OK
}

// A part of a program, with parts in it: its shape, and rows of parts.
type part struct {
	shape int
	op    api.Op
	rows  [][]part
}

const (
	shapePut = iota
	shapeLeave
	shapeIf
	shapeElse
	shapeUntil
	shapeAgain
	shapeWhile
	shapeLoop  // do loop
	shapePlus  // do +loop
	shapeQLoop // ?do loop
	shapeQPlus // ?do +loop
	shapeCase  // the rows are of and endof's, by turns, and what stands ahead of endcase
	shapes
)

// randomRow: a row of parts, in which others lie so deep at most; a leave stands within a loop alone.
func randomRow(r *rand.Rand, deep int, looped bool) []part {
	var row []part
	for range r.Intn(4) {
		row = append(row, randomPart(r, deep, looped))
	}
	return row
}

func randomPart(r *rand.Rand, deep int, looped bool) part {
	p := part{shape: r.Intn(shapes), op: api.Op{Kind: []int{api.OLit, api.OCall, api.OExit, api.OTo}[r.Intn(4)], N: r.Uint32()}}
	if deep == 0 {
		p.shape = r.Intn(2)
	}
	if p.shape == shapeLeave && !looped {
		p.shape = shapePut
	}
	rows := []int{0, 0, 1, 2, 1, 1, 2, 1, 1, 1, 1, 1 + 2*r.Intn(3)}[p.shape]
	looped = looped || p.shape >= shapeLoop && p.shape <= shapeQPlus
	for range rows {
		p.rows = append(p.rows, randomRow(r, deep-1, looped))
	}
	return p
}

// steps: how the parts are built.
func steps(row []part) []step {
	var l []step
	for _, p := range row {
		l = append(l, p.steps()...)
	}
	return l
}

// around: the acts, with the rows' steps between them.
func around(rows [][]part, acts ...int) []step {
	var l []step
	for _, act := range acts {
		if act != 0 {
			l = append(l, step{act: act})
			continue
		}
		l = append(l, steps(rows[0])...)
		rows = rows[1:]
	}
	return l
}

func (p part) steps() []step {
	switch p.shape {
	case shapePut:
		return []step{{op: p.op}}
	case shapeLeave:
		return []step{{act: api.ALeave}}
	case shapeIf:
		return around(p.rows, api.AIf, 0, api.AThen)
	case shapeElse:
		return around(p.rows, api.AIf, 0, api.AAhead, api.AThen, 0, api.AThen)
	case shapeUntil:
		return around(p.rows, api.ABegin, 0, api.AUntil)
	case shapeAgain:
		return around(p.rows, api.ABegin, 0, api.AAgain)
	case shapeWhile:
		return around(p.rows, api.ABegin, 0, api.AIf, 0, api.AAgain, api.AThen)
	case shapeLoop:
		return around(p.rows, api.ADo, 0, api.ALoop)
	case shapePlus:
		return around(p.rows, api.ADo, 0, api.APlus)
	case shapeQLoop:
		return around(p.rows, api.AQDo, 0, api.ALoop)
	case shapeQPlus:
		return around(p.rows, api.AQDo, 0, api.APlus)
	}
	acts := []int{api.ACase}
	for range len(p.rows) / 2 {
		acts = append(acts, 0, api.AOf, 0, api.AEndof)
	}
	return around(p.rows, append(acts, 0, api.AEndcase)...)
}

// length: how many instructions the parts come to.
func length(row []part) int {
	n := 0
	for _, p := range row {
		n += p.length()
	}
	return n
}

func (p part) length() int {
	n := []int{1, 1, 1, 2, 1, 1, 2, 2, 2, 2, 2, len(p.rows)}[p.shape]
	for _, row := range p.rows {
		n += length(row)
	}
	return n
}

// told: the code that the parts come to at a place, with the place behind the loop that they stand in; told from above by their lengths, no branch waiting for its place.
func told(row []part, at, out int) []api.Op {
	var l []api.Op
	for _, p := range row {
		l = append(l, p.told(at+len(l), out)...)
	}
	return l
}

func op(kind, n int) []api.Op { return []api.Op{{Kind: kind, N: uint32(n)}} }

func (p part) told(at, out int) []api.Op {
	end := at + p.length()
	switch p.shape {
	case shapePut:
		return []api.Op{p.op}
	case shapeLeave:
		return op(api.OLeave, out)
	case shapeIf:
		return slices.Concat(op(api.OZero, end), told(p.rows[0], at+1, out))
	case shapeElse:
		other := at + 2 + length(p.rows[0])
		return slices.Concat(op(api.OZero, other), told(p.rows[0], at+1, out), op(api.OBranch, end), told(p.rows[1], other, out))
	case shapeUntil:
		return slices.Concat(told(p.rows[0], at, out), op(api.OZero, at))
	case shapeAgain:
		return slices.Concat(told(p.rows[0], at, out), op(api.OBranch, at))
	case shapeWhile:
		mid := at + length(p.rows[0])
		return slices.Concat(told(p.rows[0], at, out), op(api.OZero, end), told(p.rows[1], mid+1, out), op(api.OBranch, at))
	case shapeCase:
		return p.toldCase(at, out)
	}
	begin := []int{api.ODo, api.ODo, api.OQDo, api.OQDo}[p.shape-shapeLoop]
	last := []int{api.OLoop, api.OPlus}[(p.shape-shapeLoop)%2]
	return slices.Concat(op(begin, end), told(p.rows[0], at+1, end), op(last, at+1))
}

func (p part) toldCase(at, out int) []api.Op {
	var l []api.Op
	end, rows := at+p.length(), p.rows
	for len(rows) > 1 {
		l = append(l, told(rows[0], at+len(l), out)...)
		l = append(l, op(api.OOf, at+len(l)+length(rows[1])+2)...)
		l = append(l, told(rows[1], at+len(l), out)...)
		l = append(l, op(api.OBranch, end)...)
		rows = rows[2:]
	}
	l = append(l, told(rows[0], at+len(l), out)...)
	return append(l, op(api.ODrop, 0)...)
}

// fitting: a random row of parts that has from 1 to so many instructions.
func fitting(r *rand.Rand, most int) []part {
	for {
		row := randomRow(r, 4, false)
		if n := length(row); n > 0 && n <= most {
			return row
		}
	}
}

// P10.1, P10.2: conditions, loops and cases, in one another in all ways, come to the code that is told from above.
func TestPartsWithinParts(t *testing.T) {
	r := rand.New(rand.NewSource(10))
	for range 3000 {
		row := fitting(r, api.MaxCode)
		d, e := build(api.Draft{}, steps(row))
		l, f := code.Finish(d)
		if want := told(row, 0, 0); e != api.OK || f != api.OK || !slices.Equal(l, want) {
			t.Fatalf("%v: %v, %v, %v; want %v", steps(row), l, e, f, want)
		}
		leadWithin(t, l)
	}
}

// leadWithin: does each branch lead to an instruction or the end, and is nothing else there than may be?
func leadWithin(t *testing.T, l []api.Op) {
	t.Helper()
	for i, o := range l {
		switch o.Kind {
		case api.OBranch, api.OZero, api.ODo, api.OQDo, api.OLoop, api.OPlus, api.OLeave, api.OOf:
			if int64(o.N) > int64(len(l)) {
				t.Fatalf("the branch %d leads out of %v", i, l)
			}
		case api.ODrop:
			if o.N != 0 {
				t.Fatalf("the drop %d of %v has a number", i, l)
			}
		case api.OLit, api.OCall, api.OExit, api.OTo:
		default:
			t.Fatalf("the instruction %d of %v is none", i, l)
		}
	}
}

// An assembler builds code with labels in the place of numbers; where they lie is filled in at the end.
type assembler struct {
	ops    []api.Op
	labels []int // of each instruction its label, or -1
	lies   []int // of each label its place
	origs  []int // labels
	dests  []int // labels
	loops  [][2]int
	cases  []*struct{ next, end int }
}

func (a *assembler) label() int {
	a.lies = append(a.lies, -1)
	return len(a.lies) - 1
}

func (a *assembler) here(label int) { a.lies[label] = len(a.ops) }

func (a *assembler) lay(kind, label int) {
	a.ops = append(a.ops, api.Op{Kind: kind})
	a.labels = append(a.labels, label)
}

func cut[T any](l *[]T) T {
	n := len(*l) - 1
	x := (*l)[n]
	*l = (*l)[:n]
	return x
}

// may: is there what the act asks for?
func (a *assembler) may(act int) bool {
	n := len(a.cases)
	switch act {
	case api.AAhead, api.AThen:
		return len(a.origs) > 0
	case api.AAgain, api.AUntil:
		return len(a.dests) > 0
	case api.ALoop, api.APlus, api.ALeave:
		return len(a.loops) > 0
	case api.AOf, api.AEndcase:
		return n > 0 && a.cases[n-1].next < 0
	case api.AEndof:
		return n > 0 && a.cases[n-1].next >= 0
	}
	return true
}

func (a *assembler) act(act int) {
	kinds := []int{0, api.OZero, api.OBranch, 0, 0, api.OBranch, api.OZero, api.ODo, api.OQDo, api.OLoop, api.OPlus, api.OLeave, 0, api.OOf, api.OBranch, api.ODrop}
	switch act {
	case api.AIf:
		a.origs = append(a.origs, a.label())
		a.lay(kinds[act], len(a.lies)-1)
	case api.AAhead:
		x := a.label()
		a.origs = slices.Insert(a.origs, len(a.origs)-1, x)
		a.lay(kinds[act], x)
	case api.AThen:
		a.here(cut(&a.origs))
	case api.ABegin:
		a.dests = append(a.dests, a.label())
		a.here(len(a.lies) - 1)
	case api.AAgain, api.AUntil:
		a.lay(kinds[act], cut(&a.dests))
	case api.ADo, api.AQDo:
		loop := [2]int{a.label(), a.label()}
		a.lay(kinds[act], loop[1])
		a.here(loop[0])
		a.loops = append(a.loops, loop)
	case api.ALoop, api.APlus:
		loop := cut(&a.loops)
		a.lay(kinds[act], loop[0])
		a.here(loop[1])
	case api.ALeave:
		a.lay(kinds[act], a.loops[len(a.loops)-1][1])
	case api.ACase:
		a.cases = append(a.cases, &struct{ next, end int }{-1, a.label()})
	case api.AOf:
		c := a.cases[len(a.cases)-1]
		c.next = a.label()
		a.lay(kinds[act], c.next)
	case api.AEndof:
		c := a.cases[len(a.cases)-1]
		a.lay(kinds[act], c.end)
		a.here(c.next)
		c.next = -1
	case api.AEndcase:
		c := cut(&a.cases)
		a.lay(kinds[act], -1)
		a.here(c.end)
	}
}

// laid: the code, each label's place filled in.
func (a *assembler) laid() []api.Op {
	l := slices.Clone(a.ops)
	for i, label := range a.labels {
		if label >= 0 {
			l[i].N = uint32(a.lies[label])
		}
	}
	return l
}

// closing: an act that brings a draft nearer to its end; false, if nothing is open.
func closing(d api.Draft) (int, bool) {
	switch {
	case len(d.Origs) > 0:
		return api.AThen, true
	case len(d.Dests) > 0:
		return api.AUntil, true
	case len(d.Loops) > 0:
		return api.APlus, true
	case len(d.Cases) > 0 && d.Cases[len(d.Cases)-1].At >= 0:
		return api.AEndof, true
	}
	return api.AEndcase, len(d.Cases) > 0
}

// P10.1, P10.2: rows of acts in any order, each taken or refused, come to the code that labels come to, and at each act the draft is formed.
func TestRowsOfActs(t *testing.T) {
	r := rand.New(rand.NewSource(11))
	for range 1500 {
		var d api.Draft
		var a assembler
		for range r.Intn(60) {
			act := r.Intn(16)
			if act == 0 {
				o := api.Op{Kind: api.OLit, N: r.Uint32()}
				d, _ = code.Put(d, o)
				a.ops, a.labels = append(a.ops, o), append(a.labels, -1)
				continue
			}
			y, e := code.Act(d, act)
			if !a.may(act) {
				if !same(y, api.Draft{}) || e != api.ErrControl {
					t.Fatalf("the act %d of %v: %v, %v; want ErrControl", act, d, y, e)
				}
				continue
			}
			if e != api.OK || !code.Formed(y) {
				t.Fatalf("the act %d of %v: %v, %v", act, d, y, e)
			}
			a.act(act)
			d = y
		}
		for act, open := closing(d); open; act, open = closing(d) {
			a.act(act)
			d, _ = code.Act(d, act)
		}
		l, e := code.Finish(d)
		if want := a.laid(); e != api.OK || !slices.Equal(l, want) {
			t.Fatalf("%v, %v; want %v", l, e, want)
		}
		leadWithin(t, l)
	}
}

// P10.2: all short rows of acts, built from nothing, leave formed drafts; those that can be finished have no branch that leads out.
func TestAllShortRows(t *testing.T) {
	finished := 0
	var add func(d api.Draft, more int)
	add = func(d api.Draft, more int) {
		if !code.Formed(d) {
			t.Fatalf("%v isn't formed", d)
		}
		l, e := code.Finish(d)
		_, open := closing(d)
		if open != (e == api.ErrControl) || open == (e == api.OK) {
			t.Fatalf("Finish of %v: %v", d, e)
		}
		if !open {
			finished++
			leadWithin(t, l)
		}
		for act := 0; act <= api.AEndcase && more > 0; act++ {
			if y, e := (step{act: act, op: api.Op{Kind: api.OExit}}).take(d); e == api.OK {
				add(y, more-1)
			} else if e != api.ErrControl {
				t.Fatalf("the act %d of %v: %v", act, d, e)
			}
		}
	}
	add(api.Draft{}, 6)
	if finished < 100 {
		t.Errorf("only %d rows finished", finished)
	}
}

// randomDraft: what random acts make of nothing, all that may be open being so perhaps.
func randomDraft(r *rand.Rand, acts int) (api.Draft, []step) {
	var d api.Draft
	var row []step
	for range acts {
		s := step{act: r.Intn(16), op: api.Op{Kind: api.OLit, N: r.Uint32()}}
		if y, e := s.take(d); e == api.OK {
			d = y
			row = append(row, s)
		}
	}
	return d, row
}

// moved: the code, with the branches that lead to a place from there on shifted.
func moved(l []api.Op, from, by int) []api.Op {
	l = slices.Clone(l)
	for i, o := range l {
		switch o.Kind {
		case api.OBranch, api.OZero, api.ODo, api.OQDo, api.OLoop, api.OPlus, api.OLeave, api.OOf:
			if int64(o.N) >= int64(from) {
				l[i].N += uint32(by)
			}
		}
	}
	return l
}

// P10.3: what is complete by itself lies behind a draft's code with its branches shifted, and changes nothing else.
func TestCompletePartsLieInBetween(t *testing.T) {
	r := rand.New(rand.NewSource(12))
	for range 2000 {
		before, _ := randomDraft(r, r.Intn(80))
		row := fitting(r, api.MaxCode-len(before.Code))
		alone, _ := build(api.Draft{}, steps(row))
		want := before
		want.Code = slices.Concat(before.Code, moved(alone.Code, 0, len(before.Code)))
		if d, e := build(before, steps(row)); e != api.OK || !same(d, want) {
			t.Fatalf("%v behind %v: %v, %v; want %v", steps(row), before, d, e, want)
		}
	}
}

// P10.3: what is complete by itself, in any place of what is built around it, lies there in the finished code, and all else is as without it.
func TestFinishedAroundCompleteParts(t *testing.T) {
	r := rand.New(rand.NewSource(13))
	mark := step{op: api.Op{Kind: api.OCall, N: 77}}
	for range 2000 {
		outer := steps(fitting(r, 60))
		inner := steps(fitting(r, 60))
		n := r.Intn(len(outer) + 1)
		// With a mark on both sides no branch leads to the place itself, so that it is plain which ones are shifted.
		head := append(slices.Clone(outer[:n]), mark)
		tail := append([]step{mark}, outer[n:]...)
		part, _ := build(api.Draft{}, head)
		at := len(part.Code)
		without, _ := build(api.Draft{}, slices.Concat(head, tail))
		alone, _ := build(api.Draft{}, inner)
		with, e := build(api.Draft{}, slices.Concat(head, inner, tail))
		l, f := code.Finish(with)
		rest := moved(without.Code, at, len(alone.Code))
		want := slices.Concat(rest[:at], moved(alone.Code, 0, at), rest[at:])
		if e != api.OK || f != api.OK || !slices.Equal(l, want) {
			t.Fatalf("%v in %v and %v: %v, %v, %v; want %v", inner, head, tail, l, e, f, want)
		}
	}
}

// P10.3: an act leaves alone what is open below the newest.
func TestBelowTheNewest(t *testing.T) {
	r := rand.New(rand.NewSource(14))
	for range 2000 {
		d, _ := randomDraft(r, r.Intn(60))
		act := 1 + r.Intn(15)
		y, e := code.Act(d, act)
		if e != api.OK {
			continue
		}
		for _, x := range [][2][]int{{d.Origs, y.Origs}, {d.Dests, y.Dests}} {
			if n := len(x[0]) - 1; n > 0 && !slices.Equal(x[0][:n], x[1][:n]) {
				t.Fatalf("the act %d of %v: %v", act, d, y)
			}
		}
		for _, x := range [][2][]api.Open{{d.Loops, y.Loops}, {d.Cases, y.Cases}} {
			if n := len(x[0]) - 1; n > 0 && !slices.EqualFunc(x[0][:n], x[1][:n], sameOpen) {
				t.Fatalf("the act %d of %v: %v", act, d, y)
			}
		}
	}
}

// spared: the list as new memory, with spare room behind it, which is marked.
func spared[T any](l []T, mark T) []T {
	all := append(slices.Clone(l), mark, mark)
	return all[: len(l) : len(l)+2]
}

// sparedDraft: the draft with marked spare room behind each of its lists.
func sparedDraft(d api.Draft) api.Draft {
	d.Code = spared(d.Code, api.Op{Kind: 77, N: 77})
	d.Origs, d.Dests = spared(d.Origs, 77), spared(d.Dests, 77)
	d.Loops, d.Cases = spared(d.Loops, api.Open{At: 77}), spared(d.Cases, api.Open{At: 77})
	for _, l := range [][]api.Open{d.Loops, d.Cases} {
		for i := range l {
			l[i].Outs = spared(l[i].Outs, 77)
		}
	}
	return d
}

// opened: the draft with the spare room of all its lists laid open, as new memory.
func opened(d api.Draft) api.Draft {
	wider := func(l []api.Open) []api.Open {
		l = slices.Clone(l[:cap(l)])
		for i := range l {
			l[i].Outs = slices.Clone(l[i].Outs[:cap(l[i].Outs)])
		}
		return l
	}
	return api.Draft{
		Code: slices.Clone(d.Code[:cap(d.Code)]), Origs: slices.Clone(d.Origs[:cap(d.Origs)]), Dests: slices.Clone(d.Dests[:cap(d.Dests)]),
		Loops: wider(d.Loops), Cases: wider(d.Cases),
	}
}

// scribble: writes over all that the draft's lists hold, spare room and all.
func scribble(d api.Draft) {
	numbers := func(l []int) {
		for i := range l[:cap(l)] {
			l[:cap(l)][i] ^= 1 << 20
		}
	}
	scribbleCode(d.Code)
	numbers(d.Origs)
	numbers(d.Dests)
	for _, l := range [][]api.Open{d.Loops, d.Cases} {
		l = l[:cap(l)]
		for i := range l {
			numbers(l[i].Outs)
			l[i].At ^= 1 << 20
		}
	}
}

func scribbleCode(l []api.Op) {
	for i := range l[:cap(l)] {
		l[:cap(l)][i].Kind ^= 1 << 20
		l[:cap(l)][i].N ^= 1 << 20
	}
}

// P1: what is handed in is left as it was, spare room and all, and shares no memory with what is answered; nor do two answers.
func TestNothingIsChangedOrShared(t *testing.T) {
	calls := map[string]func(d api.Draft) api.Draft{
		"Formed":    func(d api.Draft) api.Draft { code.Formed(d); return api.Draft{} },
		"Put":       func(d api.Draft) api.Draft { y, _ := code.Put(d, api.Op{Kind: api.OLit, N: 5}); return y },
		"Put wrong": func(d api.Draft) api.Draft { y, _ := code.Put(d, api.Op{}); return y },
		"Finish open": func(d api.Draft) api.Draft {
			l, _ := code.Finish(d)
			return api.Draft{Code: l}
		},
		"Finish": func(d api.Draft) api.Draft {
			l, _ := code.Finish(api.Draft{Code: d.Code})
			return api.Draft{Code: l}
		},
	}
	for act := 0; act <= 16; act++ {
		calls["the act "+string(rune('A'+act))] = func(d api.Draft) api.Draft { y, _ := code.Act(d, act); return y }
	}
	for name, call := range calls {
		for _, of := range []api.Draft{wide(), inOf(), padded(wide(), api.MaxCode), {}, {Code: wide().Code, Dests: []int{99}}} {
			d := sparedDraft(of)
			before := opened(d)
			one, two := call(d), call(d)
			if !same(opened(d), before) {
				t.Errorf("%s changes its argument", name)
			}
			kept := opened(two)
			scribble(one)
			if !same(opened(d), before) {
				t.Errorf("%s: its answer shares memory with its argument", name)
			}
			if !same(opened(two), kept) {
				t.Errorf("%s: two answers share memory", name)
			}
			scribble(d)
			if !same(opened(two), kept) {
				t.Errorf("%s keeps its argument", name)
			}
		}
	}
}

// P1: lists that share memory where they are handed in share none in the answer, nor are they muddled on the way.
func TestListsOfOneAnswer(t *testing.T) {
	row := []int{1, 2, 2, 2}
	of := wide()
	of.Origs, of.Dests = row[:2], row[1:3]
	of.Cases = []api.Open{{At: -1, Outs: row[1:2]}, {At: 12, Outs: row[1:3]}}
	for act := api.AIf; act <= api.AEndcase; act++ {
		apart := of
		apart.Origs, apart.Dests = []int{1, 2}, []int{2, 2}
		apart.Cases = []api.Open{{At: -1, Outs: []int{2}}, {At: 12, Outs: []int{2, 2}}}
		want, e := code.Act(apart, act)
		y, f := code.Act(of, act)
		if e != f || !same(y, want) || !slices.Equal(row, []int{1, 2, 2, 2}) {
			t.Fatalf("the act %d: %v, %v; want %v, %v", act, y, f, want, e)
		}
		for i := range y.Origs[:cap(y.Origs)] {
			y.Origs[:cap(y.Origs)][i] = 500
		}
		if e == api.OK && (!slices.Equal(y.Dests, want.Dests) || !slices.EqualFunc(y.Cases, want.Cases, sameOpen)) {
			t.Fatalf("the act %d: lists of its answer share memory", act)
		}
	}
}
