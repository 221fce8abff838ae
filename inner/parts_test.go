package inner_test

import (
	"math/rand"
	"testing"

	"tinder/api"
	"tinder/code"
	"tinder/dict"
)

// A part of a definition, with rows of parts in it.
type part struct {
	shape int
	op    api.Op
	rows  [][]part
}

const (
	shapePut = iota
	shapeExit
	shapeLeave
	shapeIf
	shapeElse
	shapeUntil
	shapeAgain
	shapeWhile
	shapeLoop  // do loop
	shapePlus  // do +loop
	shapeQLoop // ?do loop
	shapeQPlus // ?do +loop
	shapeCase  // the rows are what stands ahead of of's and what stands behind, by turns, and what stands ahead of endcase
	shapes
)

// How a row of parts ended.
const (
	goesOn = iota
	isLeft
	isGone
)

// parts: what the parts say, done by the language's own ifs and loops; each instruction that they come to takes its step.
func (x *model) parts(row []part) int {
	for _, p := range row {
		if how := x.part(p); how != goesOn {
			return how
		}
	}
	return goesOn
}

// taken: a step is taken, and the top cell.
func (x *model) taken() uint32 {
	x.step()
	a := x.top(1)[0]
	x.leave(1)
	return a
}

func (x *model) part(p part) int {
	switch p.shape {
	case shapePut:
		x.step()
		x.op(p.op)
		return goesOn
	case shapeExit:
		x.step()
		return isGone
	case shapeLeave:
		x.step()
		x.own(2)
		x.ret = x.ret[:len(x.ret)-2]
		return isLeft
	case shapeIf:
		if x.taken() != 0 {
			return x.parts(p.rows[0])
		}
		return goesOn
	case shapeElse:
		if x.taken() == 0 {
			return x.parts(p.rows[1])
		}
		how := x.parts(p.rows[0])
		if how == goesOn {
			x.step()
		}
		return how
	case shapeUntil, shapeAgain, shapeWhile:
		return x.begin(p)
	case shapeCase:
		return x.cases(p)
	}
	return x.loop(p)
}

// begin: the loops without an index.
func (x *model) begin(p part) int {
	for {
		if how := x.parts(p.rows[0]); how != goesOn {
			return how
		}
		switch p.shape {
		case shapeUntil:
			if x.taken() != 0 {
				return goesOn
			}
		case shapeAgain:
			x.step()
		case shapeWhile:
			if x.taken() == 0 {
				return goesOn
			}
			if how := x.parts(p.rows[1]); how != goesOn {
				return how
			}
			x.step()
		}
	}
}

// loop: the loops with an index.
func (x *model) loop(p part) int {
	x.step()
	a := x.top(2)
	if p.shape >= shapeQLoop && a[0] == a[1] {
		x.leave(2)
		return goesOn
	}
	x.onto(2, a...)
	end := api.OLoop
	if p.shape == shapePlus || p.shape == shapeQPlus {
		end = api.OPlus
	}
	for again := true; again; {
		switch how := x.parts(p.rows[0]); how {
		case isLeft:
			return goesOn
		case isGone:
			return how
		}
		x.step()
		again = x.turnLoop(end)
	}
	return goesOn
}

func (x *model) cases(p part) int {
	rows := p.rows
	for ; len(rows) > 1; rows = rows[2:] {
		if how := x.parts(rows[0]); how != goesOn {
			return how
		}
		x.step()
		a := x.top(2)
		if a[0] != a[1] {
			x.leave(1)
			continue
		}
		x.leave(2)
		how := x.parts(rows[1])
		if how == goesOn {
			x.step()
		}
		return how
	}
	if how := x.parts(rows[0]); how != goesOn {
		return how
	}
	x.taken()
	return goesOn
}

// builder builds act by act, up to the first error.
type builder struct {
	d api.Draft
	e api.Errno
}

func (b *builder) act(l ...int) {
	for _, act := range l {
		if b.e == api.OK {
			b.d, b.e = code.Act(b.d, act)
		}
	}
}

func (b *builder) put(o api.Op) {
	if b.e == api.OK {
		b.d, b.e = code.Put(b.d, o)
	}
}

func (b *builder) row(row []part) {
	for _, p := range row {
		b.part(p)
	}
}

func (b *builder) part(p part) {
	switch p.shape {
	case shapePut:
		b.put(p.op)
	case shapeExit:
		b.put(api.Op{Kind: api.OExit})
	case shapeLeave:
		b.act(api.ALeave)
	case shapeIf:
		b.act(api.AIf)
		b.row(p.rows[0])
		b.act(api.AThen)
	case shapeElse:
		b.act(api.AIf)
		b.row(p.rows[0])
		b.act(api.AAhead, api.AThen)
		b.row(p.rows[1])
		b.act(api.AThen)
	case shapeUntil:
		b.act(api.ABegin)
		b.row(p.rows[0])
		b.act(api.AUntil)
	case shapeAgain:
		b.act(api.ABegin)
		b.row(p.rows[0])
		b.act(api.AAgain)
	case shapeWhile:
		b.act(api.ABegin)
		b.row(p.rows[0])
		b.act(api.AIf)
		b.row(p.rows[1])
		b.act(api.AAgain, api.AThen)
	case shapeCase:
		b.act(api.ACase)
		for rows := p.rows; ; rows = rows[2:] {
			b.row(rows[0])
			if len(rows) == 1 {
				break
			}
			b.act(api.AOf)
			b.row(rows[1])
			b.act(api.AEndof)
		}
		b.act(api.AEndcase)
	default:
		b.act([]int{api.ADo, api.ADo, api.AQDo, api.AQDo}[p.shape-shapeLoop])
		b.row(p.rows[0])
		b.act([]int{api.ALoop, api.APlus}[(p.shape-shapeLoop)%2])
	}
}

// A writer writes random definitions for a machine with so many words.
type writer struct {
	r     *rand.Rand
	m     api.Machine
	words int
}

func (w writer) lit(n uint32) part { return part{op: lit(n)} }

func (w writer) small() part { return w.lit(uint32(w.r.Intn(7) - 2)) }

func (w writer) call(names ...string) part {
	return part{op: call(w.m, names[w.r.Intn(len(names))])}
}

// word: one of those that are defined.
func (w writer) word() uint32 { return uint32(deskWords + w.r.Intn(w.words-deskWords)) }

// plain: a few instructions without parts.
func (w writer) plain(looped bool) []part {
	switch w.r.Intn(12) {
	case 0, 1, 2:
		return []part{w.small()}
	case 3:
		return []part{w.small(), w.small(), w.call("+", "-", "*", "=", "<", "/", "2drop", "swap", "2dup")}
	case 4:
		return []part{w.call("dup", "drop", "swap", "+", "-", "over", "0=", "?dup", "depth", "rot")}
	case 5:
		return []part{w.lit(w.word()), w.call("catch", "catch", "execute")}
	case 6:
		return []part{{op: api.Op{Kind: api.OCall, N: w.word()}}}
	case 7:
		return []part{w.small(), w.call("throw", "emit", ".")}
	case 8:
		return []part{w.small(), {op: api.Op{Kind: api.OTo, N: wValue}}, w.call("v", "v", "k")}
	case 9:
		if looped {
			return []part{w.call("i", "i", "j")}
		}
		return []part{w.small(), w.call(">r"), w.call("r@", "i", "k"), w.call("r>")}
	case 10:
		if looped && w.r.Intn(2) == 0 {
			return []part{{shape: shapeLeave}}
		}
		if looped {
			return []part{w.call("unloop"), {shape: shapeExit}}
		}
		return []part{{shape: shapeExit}}
	}
	return []part{w.lit(atHi), w.lit(2), w.lit(uint32(w.r.Intn(6))), w.call("$call-method")}
}

// row: parts, in which others lie so deep at most.
func (w writer) row(deep int, looped bool) []part {
	var row []part
	for range w.r.Intn(4) {
		if deep == 0 || w.r.Intn(2) == 0 {
			row = append(row, w.plain(looped)...)
		} else {
			row = append(row, w.shaped(deep-1, looped)...)
		}
	}
	return row
}

// shaped: a part with parts in it, behind the numbers that it takes.
func (w writer) shaped(deep int, looped bool) []part {
	p := part{shape: shapeIf + w.r.Intn(shapes-shapeIf)}
	inLoop := p.shape >= shapeLoop && p.shape <= shapeQPlus
	n := 1
	switch p.shape {
	case shapeElse, shapeWhile:
		n = 2
	case shapeCase:
		n = 1 + 2*w.r.Intn(4)
	}
	for range n {
		p.rows = append(p.rows, w.row(deep, looped || inLoop))
	}
	var ahead []part
	switch {
	case inLoop:
		ahead = []part{w.small(), w.small()}
		if p.shape == shapePlus || p.shape == shapeQPlus {
			p.rows[0] = append(p.rows[0], w.small())
		}
	case p.shape == shapeUntil || p.shape == shapeWhile:
		p.rows[0] = append(p.rows[0], w.small())
	case p.shape == shapeCase:
		for i := 0; i+1 < len(p.rows); i += 2 {
			p.rows[i] = append(p.rows[i], w.small())
		}
		ahead = []part{w.small()}
	case p.shape != shapeAgain:
		ahead = []part{w.small()}
	}
	return append(ahead, p)
}

// defined: the desk with as many words as the writer has, built act by act, and the parts that they are of.
func (w writer) defined(t *testing.T) (api.Machine, map[int][]part) {
	m, bodies := twin(w.m), map[int][]part{}
	for xt := deskWords; xt < w.words; {
		body := w.row(3, false)
		var b builder
		b.row(body)
		if b.e == api.ErrLong {
			continue
		}
		l, e := code.Finish(b.d)
		if b.e != api.OK || e != api.OK {
			t.Fatalf("%v: %v, %v", body, b.e, e)
		}
		m.Words = append(m.Words, api.Word{Node: -1, Kind: api.WColon, Code: l})
		bodies[xt] = body
		xt++
	}
	if !dict.Formed(m) {
		t.Fatal("not formed")
	}
	return m, bodies
}

// P11.3: each kind of part, told by texts.
func TestParts(t *testing.T) {
	m := known(t, desk(), "sign dup 0< if drop -1 else 0> if 1 else 0 then then", "fac 1 swap begin dup while tuck * swap 1 - repeat drop",
		"name case 1 of 11 endof 2 of 12 endof dup 100 + swap endcase", "halves 0 swap begin 2/ swap 1 + swap dup 0= until drop",
		"safe catch dup if 1000 + then", "risky 10 swap /", "sums 0 4 0 do 3 0 do i j * + loop loop", "first 10 0 do i dup * 20 > if i unloop exit then loop -1",
		"odd 9 0 do i 1 and 0= if else i then 2 +loop", "row ?do i loop", "back 0 10 do i -3 +loop", "first-over 100 0 do i over > if leave then i loop")
	leaves(t, m, "-7 sign 0 sign 7 sign", minus(1), 0, 1)
	leaves(t, m, "0 fac 1 fac 5 fac", 1, 1, 120)
	leaves(t, m, "1 name 2 name 3 name", 11, 12, 103)
	leaves(t, m, "8 halves 1 halves", 4, 1)
	leaves(t, m, "5 'risky safe 0 'risky safe", 2, 0, 10, 1000+uint32(api.ErrZero))
	leaves(t, m, "sums", 18)
	leaves(t, m, "first", 5)
	leaves(t, m, "odd")
	leaves(t, m, "3 0 row 0 0 row 5 3 row", 0, 1, 2, 3, 4)
	leaves(t, m, "back", 10, 7, 4, 1)
	leaves(t, m, "2 first-over", 2, 0)
}

// P11.3: definitions that are built act by act do what their parts say, in one another in all ways.
func TestBuilt(t *testing.T) {
	r := rand.New(rand.NewSource(113))
	ends := map[api.Errno]int{}
	for range 3000 {
		w := writer{r: r, m: as(desk(), r.Intn(2)*onBus), words: deskWords + 5}
		m, bodies := w.defined(t)
		m.Stack = many(r.Intn(4))
		for xt := range bodies {
			x := model{m: twin(m), fuel: 800, bodies: bodies, ran: map[string]int{}}
			want := x.run(xt)
			ends[want]++
			y, left, e := run(t, m, xt, 800)
			if e != want || e == api.OK && (left != x.fuel || !alike(y, x.m)) {
				t.Fatalf("%v: %v, %d, %v; want %v, %d, %v", bodies[xt], y.Stack, left, e, x.m.Stack, x.fuel, want)
			}
		}
	}
	for _, e := range []api.Errno{api.OK, api.ErrUnder, api.ErrRet, api.ErrFuel, api.ErrThrow, api.ErrZero, api.ErrSelf} {
		if ends[e] < 20 {
			t.Errorf("only %d end with %v: %v", ends[e], e, ends)
		}
	}
}
