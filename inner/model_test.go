package inner_test

import (
	"bytes"
	"math"
	"math/big"
	"slices"
	"strconv"
	"strings"

	"tinder/api"
	"tinder/tree"
)

// A model runs words in another way than the package does: by calls within one another, an error being a panic that goes out through them; and a word is told by its name. Nothing is changed ahead of the last thing that may be refused.
type model struct {
	m      api.Machine
	ret    []uint32
	base   int // where the cells of the return stack begin that may be used
	open   int // how many colon words are open
	fuel   int
	thrown uint32
	bodies map[int][]part // colon words that are told by their parts
	ran    map[string]int // how often a first word was run without an error
}

// run: the word's error; what comes of it is in the model.
func (x *model) run(xt int) api.Errno {
	return x.try(func() {
		x.word(xt)
		x.refuse(len(x.ret) != 0, api.ErrRet)
	})
}

func (x *model) try(do func()) (e api.Errno) {
	defer func() {
		if p := recover(); p != nil {
			e = p.(api.Errno)
		}
	}()
	do()
	return api.OK
}

func (x *model) refuse(is bool, e api.Errno) {
	if is {
		panic(e)
	}
}

func (x *model) step() {
	x.refuse(x.fuel == 0, api.ErrFuel)
	x.fuel--
}

// top: the n top cells, which stay.
func (x *model) top(n int) []uint32 {
	x.refuse(len(x.m.Stack) < n, api.ErrUnder)
	return slices.Clone(x.m.Stack[len(x.m.Stack)-n:])
}

// leave: others in the place of the n top cells.
func (x *model) leave(n int, l ...uint32) {
	rest := x.m.Stack[:len(x.m.Stack)-n]
	x.refuse(len(rest)+len(l) > 64, api.ErrOver)
	x.m.Stack = slices.Concat(rest, l)
}

// own: the n-th cell of the return stack from the top.
func (x *model) own(n int) uint32 {
	x.refuse(len(x.ret)-x.base < n, api.ErrRet)
	return x.ret[len(x.ret)-n]
}

func (x *model) self(w api.Word) *uint32 {
	x.refuse(x.m.Self < 0 || x.m.Insts[x.m.Self].Node != w.Node, api.ErrSelf)
	return &x.m.Insts[x.m.Self].Cells[w.N]
}

func (x *model) word(xt int) {
	x.step()
	w := x.m.Words[xt]
	switch w.Kind {
	case api.WPrim:
		x.first(w.Name)
		x.ran[w.Name]++
	case api.WColon:
		x.refuse(x.open == 32, api.ErrRet)
		base := x.base
		x.base = len(x.ret)
		x.open++
		if body, told := x.bodies[xt]; told {
			x.parts(body)
		} else {
			x.code(w.Code)
		}
		x.refuse(len(x.ret) != x.base, api.ErrRet)
		x.open--
		x.base = base
	case api.WDefer:
		x.word(int(w.N))
	case api.WInst:
		x.leave(0, *x.self(w))
	default:
		x.leave(0, w.N)
	}
}

func (x *model) code(l []api.Op) {
	for at := 0; at < len(l); {
		x.step()
		o := l[at]
		if o.Kind == api.OExit {
			return
		}
		if x.op(o) {
			at = int(o.N)
		} else {
			at++
		}
	}
}

// op: an instruction; does it go on where its number says?
func (x *model) op(o api.Op) bool {
	switch o.Kind {
	case api.OLit:
		x.leave(0, o.N)
	case api.OCall:
		x.word(int(o.N))
	case api.OBranch:
		return true
	case api.OZero:
		a := x.top(1)
		x.leave(1)
		return a[0] == 0
	case api.ODo, api.OQDo:
		a := x.top(2)
		if o.Kind == api.OQDo && a[0] == a[1] {
			x.leave(2)
			return true
		}
		x.onto(2, a...)
	case api.OLoop, api.OPlus:
		return x.turnLoop(o.Kind)
	case api.OLeave:
		x.own(2)
		x.ret = x.ret[:len(x.ret)-2]
		return true
	case api.OOf:
		a := x.top(2)
		x.leave(2)
		if a[0] != a[1] {
			x.leave(0, a[0])
			return true
		}
	case api.ODrop:
		x.top(1)
		x.leave(1)
	case api.OTo:
		x.to(int(o.N))
	}
	return false
}

// onto: n cells less on the stack, these more on the return stack.
func (x *model) onto(n int, l ...uint32) {
	x.refuse(len(x.ret)+len(l) > 64, api.ErrRet)
	x.leave(n)
	x.ret = slices.Concat(x.ret, l)
}

// turnLoop: is the loop to be done again? The limit is crossed where one of the numbers between the cells, walked in the step's way, is that between limit - 1 and limit.
func (x *model) turnLoop(kind int) bool {
	x.own(2)
	s := int64(1)
	if kind == api.OPlus {
		s = int64(int32(x.top(1)[0]))
		x.leave(1)
	}
	at := len(x.ret) - 2
	limit, index := x.ret[at], x.ret[at+1]
	// How far it is up to the limit, and down to below it, round the ring; a far half of the ring is beyond reach.
	up, down := int64(limit-index), int64(index-limit)+1
	over := s > 0 && up > 0 && up <= 1<<31 && s >= up || s < 0 && down <= 1<<31 && -s >= down
	if over {
		x.ret = x.ret[:at]
		return false
	}
	x.ret = slices.Concat(x.ret[:at], []uint32{limit, index + uint32(s)})
	return true
}

func (x *model) to(n int) {
	w := &x.m.Words[n]
	x.refuse(!slices.Contains([]int{api.WValue, api.WDefer, api.WInst}, w.Kind), api.ErrWord)
	a := x.top(1)[0]
	place := &w.N
	switch w.Kind {
	case api.WDefer:
		x.refuse(int(a) >= len(x.m.Words), api.ErrWord)
	case api.WInst:
		place = x.self(*w)
	}
	x.leave(1)
	*place = a
}

func (x *model) catch(xt int) {
	height, ret, base, open, self := len(x.m.Stack), slices.Clone(x.ret), x.base, x.open, x.m.Self
	e := x.try(func() {
		x.base = len(ret)
		x.word(xt)
		x.refuse(len(x.ret) != len(ret), api.ErrRet)
	})
	x.refuse(e == api.ErrFuel, e)
	x.base = base
	if e == api.OK {
		x.leave(0, 0)
		return
	}
	x.ret, x.open, x.m.Self = ret, open, self
	for len(x.m.Stack) < height {
		x.m.Stack = append(slices.Clone(x.m.Stack), 0)
	}
	c := uint32(e)
	if e == api.ErrThrow {
		c = x.thrown
	}
	x.m.Stack = append(slices.Clone(x.m.Stack[:height]), c)
}

func flag(is bool) uint32 {
	if is {
		return math.MaxUint32
	}
	return 0
}

func floor(a, b uint32) float64 { return math.Floor(float64(int32(a)) / float64(int32(b))) }

// binary: of two cells; nil of another word.
func binary(name string) func(a, b uint32) uint32 {
	return map[string]func(a, b uint32) uint32{
		"+": func(a, b uint32) uint32 { return a + b }, "-": func(a, b uint32) uint32 { return a - b }, "*": func(a, b uint32) uint32 { return a * b },
		"and": func(a, b uint32) uint32 { return a & b }, "or": func(a, b uint32) uint32 { return a | b }, "xor": func(a, b uint32) uint32 { return a ^ b },
		"/":      func(a, b uint32) uint32 { return uint32(int64(floor(a, b))) },
		"mod":    func(a, b uint32) uint32 { return a - b*uint32(int64(floor(a, b))) },
		"lshift": func(a, b uint32) uint32 { return uint32(uint64(a) << b) },
		"rshift": func(a, b uint32) uint32 { return uint32(uint64(a) >> b) },
		">>a":    func(a, b uint32) uint32 { return uint32(int64(int32(a)) >> b) },
		"min":    func(a, b uint32) uint32 { return uint32(min(int32(a), int32(b))) },
		"max":    func(a, b uint32) uint32 { return uint32(max(int32(a), int32(b))) },
		"<":      func(a, b uint32) uint32 { return flag(int32(a) < int32(b)) }, ">": func(a, b uint32) uint32 { return flag(int32(a) > int32(b)) },
		"<=": func(a, b uint32) uint32 { return flag(int32(a) <= int32(b)) }, ">=": func(a, b uint32) uint32 { return flag(int32(a) >= int32(b)) },
		"u<": func(a, b uint32) uint32 { return flag(a < b) }, "u>": func(a, b uint32) uint32 { return flag(a > b) },
		"u<=": func(a, b uint32) uint32 { return flag(a <= b) }, "u>=": func(a, b uint32) uint32 { return flag(a >= b) },
		"=": func(a, b uint32) uint32 { return flag(a == b) }, "<>": func(a, b uint32) uint32 { return flag(a != b) },
	}[name]
}

// unary: of one cell; nil of another word.
func unary(name string) func(a uint32) uint32 {
	return map[string]func(a uint32) uint32{
		"invert": func(a uint32) uint32 { return ^a }, "negate": func(a uint32) uint32 { return -a },
		"abs": func(a uint32) uint32 { return uint32(math.Abs(float64(int32(a)))) },
		"0=":  func(a uint32) uint32 { return flag(a == 0) }, "0<>": func(a uint32) uint32 { return flag(a != 0) },
		"0<": func(a uint32) uint32 { return flag(int32(a) < 0) }, "0<=": func(a uint32) uint32 { return flag(int32(a) <= 0) },
		"0>": func(a uint32) uint32 { return flag(int32(a) > 0) }, "0>=": func(a uint32) uint32 { return flag(int32(a) >= 0) },
		"2/": func(a uint32) uint32 { return uint32(int32(a) >> 1) }, "u2/": func(a uint32) uint32 { return a / 2 }, "2*": func(a uint32) uint32 { return a + a },
		"wbflip": func(a uint32) uint32 { return a%256*256 + a/256%256 },
		"upc":    func(a uint32) uint32 { return letter(a, 'a', 'A') }, "lcc": func(a uint32) uint32 { return letter(a, 'A', 'a') },
	}[name]
}

func letter(a, from, to uint32) uint32 {
	if a >= from && a < from+26 {
		return a - from + to
	}
	return a
}

// turns: words that only move cells: those that are taken by letters, and which of them are left.
func turns(name string) (taken int, left string) {
	l := strings.Fields("drop a- dup a-aa over ab-aba swap ab-ba rot abc-bca -rot abc-cab tuck ab-bab nip ab-b 2drop ab- 2dup ab-abab 2over abcd-abcdab 2swap abcd-cdab 2rot abcdef-cdefab")
	i := slices.Index(l, name)
	if i < 0 {
		return -1, ""
	}
	before, after, _ := strings.Cut(l[i+1], "-")
	return len(before), after
}

// first: a first word.
func (x *model) first(name string) {
	if n, left := turns(name); n >= 0 {
		a := x.top(n)
		var l []uint32
		for _, c := range left {
			l = append(l, a[c-'a'])
		}
		x.leave(n, l...)
		return
	}
	if f := binary(name); f != nil {
		a := x.top(2)
		x.refuse((name == "/" || name == "mod") && a[1] == 0, api.ErrZero)
		x.leave(2, f(a[0], a[1]))
		return
	}
	if f := unary(name); f != nil {
		x.leave(1, f(x.top(1)[0]))
		return
	}
	if n := slices.Index([]string{"-1", "0", "1", "2", "3"}, name); n >= 0 {
		x.leave(0, uint32(n)-1)
		return
	}
	if !x.firstOfNumbers(name) && !x.firstOfReturns(name) && !x.firstOfMemory(name) && !x.firstOfConsole(name) && !x.firstOfEncoding(name) && !x.firstOfDevices(name) {
		panic("no such word: " + name)
	}
}

func (x *model) firstOfNumbers(name string) bool {
	switch name {
	case "pick", "roll":
		n := int64(x.top(1)[0])
		x.refuse(n+2 > int64(len(x.m.Stack)), api.ErrUnder)
		l := x.m.Stack[:len(x.m.Stack)-1]
		at := len(l) - 1 - int(n)
		if name == "pick" {
			x.leave(1, l[at])
		} else {
			x.m.Stack = slices.Concat(l[:at], l[at+1:], l[at:at+1])
		}
	case "?dup":
		if a := x.top(1)[0]; a != 0 {
			x.leave(0, a)
		}
	case "depth":
		x.leave(0, uint32(len(x.m.Stack)))
	case "bl":
		x.leave(0, 32)
	case "here":
		x.leave(0, uint32(len(x.m.Mem)))
	case "lbsplit":
		a := x.top(1)[0]
		x.leave(1, a&255, a>>8&255, a>>16&255, a>>24)
	case "bljoin":
		a := x.top(4)
		x.leave(4, a[0]&255+a[1]&255<<8+a[2]&255<<16+a[3]<<24)
	case "/mod", "u/mod":
		a := x.top(2)
		x.refuse(a[1] == 0, api.ErrZero)
		q := a[0] / a[1]
		if name == "/mod" {
			q = uint32(int64(floor(a[0], a[1])))
		}
		x.leave(2, a[0]-q*a[1], q)
	case "um*":
		a := x.top(2)
		p := uint64(a[0]) * uint64(a[1])
		x.leave(2, uint32(p), uint32(p>>32))
	case "d+", "d-":
		a := x.top(4)
		p, q := uint64(a[0])+uint64(a[1])<<32, uint64(a[2])+uint64(a[3])<<32
		if name == "d-" {
			q = -q
		}
		x.leave(4, uint32(p+q), uint32((p+q)>>32))
	case "um/mod", "sm/rem", "fm/mod":
		x.wide(name)
	default:
		return false
	}
	return true
}

func (x *model) wide(name string) {
	a := x.top(3)
	x.refuse(a[2] == 0, api.ErrZero)
	double := uint64(a[0]) + uint64(a[1])<<32
	n, d := new(big.Int).SetUint64(double), big.NewInt(int64(a[2]))
	least, most := int64(0), int64(math.MaxUint32)
	if name != "um/mod" {
		n, d = big.NewInt(int64(double)), big.NewInt(int64(int32(a[2])))
		least, most = math.MinInt32, math.MaxInt32
	}
	q, r := new(big.Int).QuoRem(n, d, new(big.Int))
	if name == "fm/mod" && r.Sign()*d.Sign() < 0 {
		q.Sub(q, big.NewInt(1))
		r.Add(r, d)
	}
	x.refuse(q.Cmp(big.NewInt(least)) < 0 || q.Cmp(big.NewInt(most)) > 0, api.ErrRange)
	x.leave(3, uint32(r.Int64()), uint32(q.Int64()))
}

func (x *model) firstOfReturns(name string) bool {
	switch name {
	case ">r":
		x.onto(1, x.top(1)...)
	case "r>":
		x.leave(0, x.own(1))
		x.ret = x.ret[:len(x.ret)-1]
	case "r@", "i":
		x.leave(0, x.own(1))
	case "j":
		x.leave(0, x.own(3))
	case "unloop":
		x.own(2)
		x.ret = x.ret[:len(x.ret)-2]
	case "execute", "catch":
		xt := x.top(1)[0]
		x.refuse(int(xt) >= len(x.m.Words), api.ErrWord)
		x.leave(1)
		if name == "catch" {
			x.catch(int(xt))
		} else {
			x.word(int(xt))
		}
	case "throw":
		n := x.top(1)[0]
		if n != 0 {
			x.thrown = n
			panic(api.ErrThrow)
		}
		x.leave(1)
	default:
		return false
	}
	return true
}

// in: a stretch of the memory itself.
func (x *model) in(addr, n uint32) []byte {
	x.refuse(int64(addr)+int64(n) > int64(len(x.m.Mem)), api.ErrAddr)
	return x.m.Mem[addr : int64(addr)+int64(n)]
}

// number: likewise of a number of so many bytes.
func (x *model) number(addr, size uint32) []byte {
	x.refuse(addr%size != 0, api.ErrAlign)
	return x.in(addr, size)
}

func value(b []byte) uint32 {
	n := uint32(0)
	for _, c := range b {
		n = n*256 + uint32(c)
	}
	return n
}

// set: the number's lowest bytes, as many as there are.
func set(b []byte, n uint32) {
	for i := len(b) - 1; i >= 0; i-- {
		b[i] = byte(n)
		n /= 256
	}
}

// size: how many bytes the number has that a word of the memory is about.
func size(name string) uint32 {
	return uint32(map[byte]int{'c': 1, 'w': 2, '@': 4, '!': 4, '+': 4}[name[0]])
}

// grown: the memory with so many bytes more.
func (x *model) grown(n uint32) ([]byte, uint32) {
	at := len(x.m.Mem)
	for at%4 != 0 {
		at++
	}
	x.refuse(int64(at)+int64(n) > 4096, api.ErrRoom)
	return append(slices.Clone(x.m.Mem), make([]byte, at-len(x.m.Mem)+int(n))...), uint32(at)
}

func (x *model) firstOfMemory(name string) bool {
	switch name {
	case "@", "w@", "c@":
		x.leave(1, value(x.number(x.top(1)[0], size(name))))
	case "!", "w!", "c!", "+!":
		a := x.top(2)
		b := x.number(a[1], size(name))
		if name == "+!" {
			a[0] += value(b)
		}
		x.leave(2)
		set(b, a[0])
	case "move":
		a := x.top(3)
		from, to := x.in(a[0], a[2]), x.in(a[1], a[2])
		x.leave(3)
		copy(to, slices.Clone(from))
	case "fill":
		a := x.top(3)
		b := x.in(a[0], a[1])
		x.leave(3)
		for i := range b {
			b[i] = byte(a[2])
		}
	case "comp":
		a := x.top(3)
		x.leave(3, uint32(bytes.Compare(x.in(a[0], a[2]), x.in(a[1], a[2]))))
	case "alloc-mem":
		l, at := x.grown(x.top(1)[0])
		x.leave(1, at)
		x.m.Mem = l
	default:
		return false
	}
	return true
}

func (x *model) firstOfConsole(name string) bool {
	text, n := "", 1
	switch name {
	case "emit":
		text = string([]byte{byte(x.top(1)[0])})
	case "type":
		a := x.top(2)
		text, n = string(x.in(a[0], a[1])), 2
	case "cr":
		text, n = "\n", 0
	case "u.":
		text = strconv.FormatUint(uint64(x.top(1)[0]), int(x.m.Base)) + " "
	case ".":
		text = strconv.FormatInt(int64(int32(x.top(1)[0])), int(x.m.Base)) + " "
	case "base!":
		a := x.top(1)[0]
		x.refuse(a < 2 || a > 36, api.ErrArg)
		x.m.Base = a
	default:
		return false
	}
	x.refuse(len(x.m.Out)+len(text) > 1024, api.ErrOut)
	x.leave(n)
	x.m.Out += text
	return true
}

// lay: new memory with these bytes in the place of the n top cells, and other cells behind its own.
func (x *model) lay(n int, b []byte, more ...uint32) {
	l, at := x.grown(uint32(len(b)))
	x.leave(n, append([]uint32{at, uint32(len(b))}, more...)...)
	copy(l[at:], b)
	x.m.Mem = l
}

func (x *model) firstOfEncoding(name string) bool {
	switch name {
	case "encode-int":
		b := make([]byte, 4)
		set(b, x.top(1)[0])
		x.lay(1, b)
	case "encode-string":
		a := x.top(2)
		b := x.in(a[0], a[1])
		x.refuse(bytes.Contains(b, []byte{0}), api.ErrText)
		x.refuse(len(b) >= 256, api.ErrLong)
		x.lay(2, slices.Concat(b, []byte{0}))
	case "encode+":
		a := x.top(4)
		one, two := x.in(a[0], a[1]), x.in(a[2], a[3])
		if a[2]-a[0] == a[1] {
			x.leave(4, a[0], a[1]+a[3])
		} else {
			x.lay(4, slices.Concat(one, two))
		}
	case "decode-int":
		a := x.top(2)
		b := x.in(a[0], a[1])
		x.refuse(len(b) < 4, api.ErrNone)
		x.leave(2, a[0]+4, a[1]-4, value(b[:4]))
	case "decode-string":
		a := x.top(2)
		n := bytes.IndexByte(x.in(a[0], a[1]), 0)
		x.refuse(n < 0, api.ErrNone)
		s := uint32(n)
		x.leave(2, a[0]+s+1, a[1]-s-1, a[0], s)
	default:
		return false
	}
	return true
}

func (x *model) firstOfDevices(name string) bool {
	switch name {
	case "property":
		a := x.top(4)
		x.refuse(x.m.Node < 0, api.ErrNode)
		key, data := string(x.in(a[2], a[3])), x.in(a[0], a[1])
		t, e := tree.Set(x.m.Tree, x.m.Node, key, data)
		x.refuse(e != api.OK, e)
		x.leave(4)
		x.m.Tree = t
	case "delete-property", "get-my-property":
		a := x.top(2)
		x.refuse(x.m.Node < 0, api.ErrNode)
		key := string(x.in(a[0], a[1]))
		at := slices.IndexFunc(x.m.Tree[x.m.Node].Props, func(p api.Prop) bool { return p.Name == key })
		if name == "delete-property" {
			x.refuse(at < 0, api.ErrNone)
			x.leave(2)
			x.m.Tree[x.m.Node].Props = slices.Delete(slices.Clone(x.m.Tree[x.m.Node].Props), at, at+1)
		} else if at < 0 {
			x.leave(2, math.MaxUint32)
		} else {
			x.lay(2, x.m.Tree[x.m.Node].Props[at].Data, 0)
		}
	case "new-device":
		a := x.top(3)
		x.refuse(a[0] > 4, api.ErrArg)
		unit := x.top(3 + int(a[0]))[:a[0]]
		t, n, e := tree.Add(x.m.Tree, max(x.m.Node, 0), string(x.in(a[1], a[2])), unit)
		x.refuse(e != api.OK, e)
		x.leave(3 + len(unit))
		x.m.Tree, x.m.Node = t, n
	case "finish-device":
		x.refuse(x.m.Node < 0, api.ErrNode)
		x.m.Node = x.m.Tree[x.m.Node].Parent
	case "my-self":
		x.leave(0, uint32(x.m.Self+1))
	case "my-parent":
		x.refuse(x.m.Self < 0, api.ErrSelf)
		x.leave(0, uint32(x.m.Insts[x.m.Self].Parent+1))
	case "$call-method":
		x.method()
	default:
		return false
	}
	return true
}

func (x *model) method() {
	a := x.top(3)
	inst := int64(a[2]) - 1
	x.refuse(inst < 0 || inst >= int64(len(x.m.Insts)) || x.m.Insts[inst].Node < 0, api.ErrSelf)
	name := string(x.in(a[0], a[1]))
	xt := -1
	for n, w := range x.m.Words {
		if w.Node == x.m.Insts[inst].Node && w.Name == name && name != "" {
			xt = n
		}
	}
	x.refuse(xt < 0, api.ErrMethod)
	x.leave(3)
	self := x.m.Self
	x.m.Self = int(inst)
	x.word(xt)
	x.m.Self = self
}
