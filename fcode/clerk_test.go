package fcode_test

import (
	"math/rand"
	"slices"
	"strings"

	"tinder/api"
	"tinder/dict"
)

// A clerk writes random rows of tokens and random texts, most of which aren't refused at once, and machines for them.
type clerk struct {
	r     *rand.Rand
	codes []uint32 // those that have been given to words
	names []string // those that a text has defined
}

func newClerk(seed int64) *clerk { return &clerk{r: rand.New(rand.NewSource(seed))} }

func (c *clerk) one(l ...string) string { return l[c.r.Intn(len(l))] }

// seldom: true once in so many times.
func (c *clerk) seldom(n int) bool { return c.r.Intn(n) == 0 }

func pick[T any](c *clerk, l ...T) T { return l[c.r.Intn(len(l))] }

// of: tokens of these codes, with nothing behind them.
func of(codes ...int) []api.Tok {
	var l []api.Tok
	for _, code := range codes {
		l = append(l, api.Tok{Code: code})
	}
	return l
}

func (c *clerk) number() api.Tok {
	return api.Tok{Code: 0x10, N: pick[uint32](c, 0, 1, 2, 3, 4, 5, 6, 7, 8, 16, 37, 111, 112, 4000, minus(1), minus(2), 1<<31)}
}

// code: that of a word.
func (c *clerk) code() uint32 {
	if c.seldom(60) {
		return pick[uint32](c, 0x800, 0x80f, 0xfff, 0x10, 0xb7, 0, 0xff, 0x44)
	}
	if len(c.codes) > 0 && !c.seldom(3) {
		return pick(c, c.codes...)
	}
	return pick[uint32](c, 0x801, 0x802, 0x803, 0x804, 0x805, 0x806, 0x807, 0x46, 0x47, 0x1e)
}

// newName: a name for what is to be made.
func (c *clerk) newName() api.Tok {
	x := api.Tok{Code: pick(c, 0xb5, 0xb6, 0xb6, 0xca), N: pick[uint32](c, 0x800, 0x801, 0x802, 0x804, 0x808, 0x809, 0x80c, 0x8ff, 0xfff)}
	if x.Code != 0xb5 {
		x.Text = c.one("x", "y", "dup", "", "k", "if", strings.Repeat("n", 31))
		if c.seldom(60) {
			x.Text = c.one("X", " ", "\x00", "a b", "\xff", strings.Repeat("n", 30)+"N")
		}
	}
	c.codes = append(c.codes, x.N)
	return x
}

// plain: tokens that may stand in both states.
func (c *clerk) plain() []api.Tok {
	switch c.r.Intn(16) {
	case 0, 1, 2:
		return []api.Tok{c.number(), c.number()}
	case 3:
		return of(dict.Prims()[c.r.Intn(api.Prims)].Code)
	case 4:
		return append([]api.Tok{c.number(), c.number(), c.number()}, of(dict.Prims()[c.r.Intn(api.Prims)].Code)...)
	case 5:
		return []api.Tok{c.number(), {Code: 0xc3, N: c.code()}}
	case 6:
		return of(int(c.code()))
	case 7:
		return append([]api.Tok{{Code: 0x12, Text: c.one("", "a", "abcd", "r", "\x00\xff", "x")}}, of(pick(c, 0x90, 0x52, 0x46, 0x114, 0x21a, 0x21e, 0x110))...)
	case 8:
		return append([]api.Tok{{Code: 0x11, N: c.code()}}, of(pick(c, 0x1d, 0x217, 0x46))...)
	case 9:
		return of(pick(c, 0x48, 0x49, 0x46, 0x47, 0x51, 0x9d, 0x8f, 0xad, 0x92, 0x9b, 0x52, 0x4a, 0xa9, 0x801, 0x806))
	case 10:
		return append([]api.Tok{{Code: 0x10}, {Code: 0x12, Text: c.one("x", "y", "bus")}}, of(0x11f)...)
	case 11:
		return of(pick(c, 0x127, 0xcc, 0xcc))
	case 12:
		if c.seldom(12) {
			return []api.Tok{c.any()}
		}
	}
	return of(pick(c, 0x801, 0x802, 0x46, 0x52, 0x47, 0xa6, 0xa5))
}

// any: a token of any code.
func (c *clerk) any() api.Tok {
	code := pick(c, 0, 0xff, 0x33, 0x1b, 0xb1, 0xb2, 0xb5, 0xb6, 0xb7, 0xb8, 0xb9, 0xba, 0xbb, 0xbc, 0xbd, 0xc0, 0xc2, 0xc3, 0xc4, 0xc5, 0xc6, 0xca, 0xcc, 0x13, 0x14, 0x15, 0x16, 0x17, 0x18, 0x1c, 0x10, 0x11, 0x12, c.r.Intn(0xff0)+0x10)
	x := alone(code)
	switch code {
	case 0x13, 0x14, 0x15, 0x16, 0x17, 0x18, 0x1c, 0xc6:
		x.Off = c.offset() * pick(c, 1, -1)
	}
	return x
}

// offset: one of 0 or more, which is narrow, too.
func (c *clerk) offset() int { return pick(c, 0, 1, 2, 3, 50, 127) }

// back: one below 0.
func (c *clerk) back() int { return pick(c, -1, -2, -50, -128) }

// outside: what stands outside of a definition.
func (c *clerk) outside() []api.Tok {
	switch c.r.Intn(12) {
	case 0:
		return append([]api.Tok{c.number(), c.newName()}, of(pick(c, 0xba, 0xb8, 0xbd))...)
	case 1:
		return append([]api.Tok{c.newName()}, of(pick(c, 0xb9, 0xbc))...)
	case 2:
		l := append([]api.Tok{c.number()}, of(0xc0)...)
		return append(append(l, c.newName()), of(pick(c, 0xb8, 0xb8, 0xb8, 0xb8, 0xb8, 0xb9, 0xb7))...)
	case 3, 4, 5, 6:
		return c.definition()
	case 7:
		if c.seldom(8) {
			return []api.Tok{c.any()}
		}
	}
	return c.plain()
}

func (c *clerk) definition() []api.Tok {
	name := c.newName()
	if !c.seldom(10) {
		// It is known from behind its end on.
		c.codes = c.codes[:len(c.codes)-1]
	}
	l := append([]api.Tok{name, {Code: 0xb7}}, c.body(3)...)
	c.codes = append(c.codes, name.N)
	if c.seldom(40) {
		return l
	}
	return append(l, api.Tok{Code: 0xc2})
}

// body: what stands inside of a definition, with so many parts in one another.
func (c *clerk) body(depth int) []api.Tok {
	var l []api.Tok
	for range c.r.Intn(4) {
		l = append(l, c.inside(depth)...)
	}
	return l
}

// in: a row of tokens, in which the code -1 stands for a body, and -2 for a number.
func (c *clerk) in(depth int, codes ...int) []api.Tok {
	var l []api.Tok
	for _, code := range codes {
		switch code {
		case -1:
			l = append(l, c.body(depth-1)...)
		case -2:
			l = append(l, c.number())
		case 0x13, 0x14, 0x15, 0x16, 0x17, 0x18, 0x1c, 0xc6:
			l = append(l, api.Tok{Code: code, Off: c.offset()})
		default:
			l = append(l, api.Tok{Code: code})
		}
	}
	return l
}

func (c *clerk) inside(depth int) []api.Tok {
	if depth == 0 {
		return c.plain()
	}
	switch c.r.Intn(20) {
	case 0:
		return c.in(depth, -2, 0x14, -1, 0xb2)
	case 1:
		return c.in(depth, -2, 0x14, -1, 0x13, 0xb2, -1, 0xb2)
	case 2:
		return append(c.in(depth, 0xb1, -1, -2), api.Tok{Code: 0x14, Off: c.back()})
	case 3:
		l := append(c.in(depth, 0xb1, -1, 0x47, 0x14, -1), api.Tok{Code: 0x13, Off: c.back()})
		return append(l, of(0xb2)...)
	case 4:
		return append(c.in(depth, 0xb1, -1), api.Tok{Code: 0x13, Off: c.back()})
	case 5:
		return c.in(depth, -2, -2, pick(c, 0x17, 0x18), -1, 0x15)
	case 6:
		return c.in(depth, -2, -2, pick(c, 0x17, 0x18), -1, 0x19, -1, 0x1b, -1, -2, 0x16)
	case 7:
		return c.in(depth, -2, 0xc4, -1, -2, 0x1c, -1, 0xc6, -2, 0x1c, -1, 0xc6, -1, 0xc5)
	case 8:
		return of(0x33)
	case 9:
		if c.seldom(10) {
			return []api.Tok{c.any()}
		}
	}
	return c.plain()
}

// row: tokens with an end behind them.
func (c *clerk) row() []api.Tok {
	c.codes = nil
	var l []api.Tok
	for range 1 + c.r.Intn(8) {
		l = append(l, c.outside()...)
	}
	return append(l, api.Tok{Code: pick(c, 0, 0xff)})
}

// spoilt: the row with a token less, one more, or two changed about.
func (c *clerk) spoilt(l []api.Tok) []api.Tok {
	l = slices.Clone(l)
	at := c.r.Intn(len(l))
	switch c.r.Intn(3) {
	case 0:
		return slices.Delete(l, at, at+1)
	case 1:
		return slices.Insert(l, at, c.any())
	}
	other := c.r.Intn(len(l))
	l[at], l[other] = l[other], l[at]
	return l
}

// machine: the desk, of which some things may be near their limits.
func (c *clerk) machine() api.Machine { return c.strained(desk()) }

func (c *clerk) strained(m api.Machine) api.Machine {
	m.Node = c.r.Intn(4) - 1
	if c.seldom(2) {
		m.Self = onDisk
	}
	m.Stack = many(c.r.Intn(6))
	if c.seldom(8) {
		m = holding(m, many(api.MaxStack-c.r.Intn(4))...)
	}
	if c.seldom(8) {
		m = sized(m, api.MaxMem-c.r.Intn(24))
	}
	if c.seldom(8) && len(m.Words) > api.Prims {
		m = wordy(m, api.MaxWords-c.r.Intn(3))
	}
	if c.seldom(8) {
		m = shown(m, api.MaxOut-c.r.Intn(5))
	}
	if c.seldom(6) {
		m = celled(m, bus, api.MaxCells-c.r.Intn(2))
	}
	if c.seldom(6) {
		m.Insts = append(m.Insts, api.Inst{Node: 0, Parent: onDisk})
	}
	return m
}

// bare: a machine that has no words but layer 9's, whatever else it has.
func (c *clerk) bare() api.Machine {
	if c.seldom(4) {
		return dict.New()
	}
	m := desk()
	m.Words = m.Words[:api.Prims]
	m.Codes = nil
	for range c.r.Intn(6) {
		m.Codes = append(m.Codes, pick(c, -1, 0, 41, api.Prims-1))
	}
	return c.strained(m)
}

func (c *clerk) fuel() int {
	if c.seldom(5) {
		return c.r.Intn(12)
	}
	return 500
}

// Of texts.

// known: a name that is known.
func (c *clerk) known() string {
	if len(c.names) > 0 && !c.seldom(3) {
		return c.one(c.names...)
	}
	return c.one("dup", "drop", "+", "1", "-1", "type", "0", "depth", "throw", "i")
}

func (c *clerk) literal() string {
	return c.one("0", "1", "2", "3", "-1", "4", "5", "6", "7", "8", "16", "37", "-2", "h#ff", "b#101", "o#17", "4000", "4294967295", "111", "112", "-2147483648")
}

// word: one that may stand in both states; names that say how to read on are no use here.
func (c *clerk) word() string {
	switch c.r.Intn(16) {
	case 0, 1, 2:
		return c.literal() + " " + c.literal()
	case 3:
		return dict.Prims()[c.r.Intn(api.Prims)].Name
	case 4:
		return c.literal() + " " + c.literal() + " " + c.literal() + " " + dict.Prims()[c.r.Intn(api.Prims)].Name
	case 5:
		return c.literal() + " to " + c.known()
	case 6, 7:
		if s := c.known(); s != "if" && s != ";" {
			return s
		}
	case 8:
		return c.one(`" abc"`, `" "`, `" x"(00 41)y"`, `." hi"`, `.( a"b)`, `." "`)
	case 9:
		return c.one("( note )", "\\ note\n", "( : if ; )")
	case 10:
		return `" r" ` + c.one("encode-string", "get-my-property", "delete-property", "2dup property", "type", "2drop")
	case 11:
		return "0 " + c.one(`" x"`, `" y"`, `" bus"`) + " new-device"
	case 12:
		return c.one("finish-device", "my-self", `" m" 2 $call-method`, `" a" my-self $call-method`)
	}
	return c.one("over", "swap", "drop", "dup", "depth", ".", "emit", "here", "cr", "u.", "2drop", "rot", "bl", "5 1 -", "4 drop")
}

func (c *clerk) bodyText(depth int) string {
	var l []string
	for range c.r.Intn(4) {
		l = append(l, c.insideText(depth))
	}
	return strings.Join(l, " ")
}

func (c *clerk) insideText(depth int) string {
	if depth == 0 {
		return c.word()
	}
	// A _ stands for a body, a # for a number.
	s := pick(c,
		"# if _ then", "# if _ else _ then", "begin _ # until", "begin _ dup while _ repeat", "begin _ again", "begin _ dup while _ dup while _ repeat _ then", "# # do _ loop", "# # ?do _ loop", "5 0 do _ i _ leave _ # +loop", "5 0 ?do i # = if leave then _ loop",
		"# case _ # of _ endof # of _ endof _ endcase", "exit", "['] ~ execute", "['] ~ catch", "", "", "", "", "", "", "", "")
	if s == "" {
		return c.word()
	}
	for _, sign := range "_#~" {
		for strings.ContainsRune(s, sign) {
			with := c.bodyText(depth - 1)
			switch sign {
			case '#':
				with = c.literal()
			case '~':
				with = c.known()
			}
			// What is put in has none of the signs but in h#, b# and o#.
			s = strings.Replace(s, string(sign), strings.NewReplacer("#", "\x01", "~", "\x02").Replace(with), 1)
		}
	}
	return strings.NewReplacer("\x01", "#", "\x02", "~").Replace(s)
}

func (c *clerk) outsideText() string {
	name := c.one("a", "b", "m", "x!", "dup", "+", "type", "5", "0", "if", ";", "drop", strings.Repeat("n", 31))
	s := ""
	switch c.r.Intn(10) {
	case 0:
		s = c.literal() + c.one(" constant ", " value ", " VALUE ", " buffer: ") + name
	case 1:
		s = c.one("variable ", "defer ") + name
	case 2:
		s = c.literal() + " instance value " + name
	case 3, 4, 5:
		s = ": " + name + " " + c.bodyText(3) + " ;"
	case 6:
		return "' " + c.known() + c.one(" execute", " catch", " catch drop", " drop")
	default:
		return c.word()
	}
	c.names = append(c.names, name)
	return s
}

func (c *clerk) text() string {
	c.names = nil
	var l []string
	for range 1 + c.r.Intn(8) {
		l = append(l, c.outsideText())
	}
	return strings.Join(l, c.one(" ", "\n", "  "))
}
