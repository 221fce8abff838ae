package inst_test

import (
	"fmt"
	"math/rand"
	"strings"
	"testing"

	"tinder/api"
	"tinder/dict"
	"tinder/tree"
)

// A clerk writes random machines, and what is asked of them.
type clerk struct {
	r *rand.Rand
}

func newClerk(seed int64) *clerk { return &clerk{r: rand.New(rand.NewSource(seed))} }

// one: any of them.
func (c *clerk) one(l ...string) string { return l[c.r.Intn(len(l))] }

// seldom: once of so many times.
func (c *clerk) seldom(n int) bool { return c.r.Intn(n) == 0 }

// plain: words of a method that use up nothing that isn't theirs.
func (c *clerk) plain() string {
	return c.one("", "my-self .", "my-parent .", "depth .", "here .", "1 drop", "7 8 2drop", "v .", "v 1 + to v", "my-self to v", `." x"`, `" get" my-parent ['] $call-method catch if 2drop then drop`, `9 " set" my-parent ['] $call-method catch if 2drop 2drop then`)
}

// wild: words that may be refused.
func (c *clerk) wild() string {
	return c.one("drop", "dup", "5", "0", "begin again", "5 throw", "my-self throw", "1 >r", "r>", "9999 execute", "1 @", `0 " k" new-device`, "finish-device", "swap", "0 to v", "1 0 /", `" get" my-parent $call-method`, `" add" my-parent $call-method`)
}

// body: of a method that ends so.
func (c *clerk) body(end string) string {
	l := []string{c.plain(), c.plain(), end}
	if c.seldom(5) {
		l[c.r.Intn(2)] = c.wild()
	}
	if c.seldom(9) {
		l[2] = c.wild()
	}
	return strings.Join(l, " ")
}

// device: the text of one with a cell v and methods, at work.
func (c *clerk) device() string {
	text := fmt.Sprintf(" %d instance value v : get v ; : set to v ; : add + ; ", c.r.Intn(9))
	if !c.seldom(4) {
		text += ": open " + c.body(c.one("-1", "1", "my-self", "v 1 + dup")) + " ; "
	}
	if !c.seldom(4) {
		text += ": close " + c.body("") + " ; "
	}
	if c.seldom(2) {
		text += ": go " + c.body(c.one("", "5", "v")) + " ; "
	}
	if c.seldom(5) {
		text += c.one("1 constant open ", "6 constant get ", ": set drop ; ", "0 value go ", "defer open ", "defer close ")
	}
	return text
}

// devices: the text of some, within one another.
func (c *clerk) devices() string {
	var s strings.Builder
	s.WriteString(`: open 0 ; 3 value v : close 5 throw ; `)
	depth := 0
	for at := range 2 + c.r.Intn(7) {
		unit := c.one("0", fmt.Sprintf("%d 1", at), fmt.Sprintf("%d 0 2", at))
		if unit == "0" && !c.seldom(3) {
			unit = "1 1"
		}
		fmt.Fprintf(&s, `%s " %s%d" new-device %s`, unit, c.one("a", "b"), at, c.device())
		for depth++; depth > 0 && c.seldom(2); depth-- {
			s.WriteString("finish-device ")
		}
	}
	for range depth + 1 {
		s.WriteString("finish-device ")
	}
	s.WriteString(`: open 0 ; `)
	return s.String()
}

// name: of a method, mostly one that there is.
func (c *clerk) name() string {
	return c.one("get", "set", "add", "go", "open", "close", "v", "zz", "", "dup", "get", "set", "add", "go")
}

// fuel: mostly plenty of it.
func (c *clerk) fuel() int {
	if c.seldom(5) {
		return c.r.Intn(60)
	}
	return 400
}

// cells: a few, seldom very many.
func (c *clerk) cells() []uint32 {
	n := c.r.Intn(4)
	if c.seldom(9) {
		n = c.r.Intn(api.MaxStack + 1)
	}
	l := make([]uint32, n)
	for i := range l {
		l[i] = uint32(c.r.Intn(5))
	}
	return l
}

// insts: some instances of the devices; a parent is taken by chance from those that are there already.
func (c *clerk) insts(t []api.Node) []api.Inst {
	n := c.r.Intn(6)
	if c.seldom(3) {
		n = c.r.Intn(api.MaxInsts + 1)
	}
	l := make([]api.Inst, n)
	for i := range l {
		l[i] = free()
	}
	var there []int
	for _, i := range c.r.Perm(n) {
		if c.seldom(4) {
			continue
		}
		node := c.r.Intn(len(t))
		l[i] = of(node, -1, c.some(len(t[node].Cells))...)
		l[i].Args = c.one("", "x", "y:z")
		if len(there) > 0 && !c.seldom(3) {
			l[i].Parent = there[c.r.Intn(len(there))]
		}
		there = append(there, i)
	}
	return l
}

// some: so many cells.
func (c *clerk) some(n int) []uint32 {
	l := make([]uint32, n)
	for i := range l {
		l[i] = uint32(c.r.Intn(100))
	}
	return l
}

// machine: a formed one.
func (c *clerk) machine(t testing.TB) api.Machine {
	t.Helper()
	m := made(t, c.devices())
	m.Stack, m.Insts = c.cells(), c.insts(m.Tree)
	if n := c.r.Intn(len(m.Insts) + 1); n < len(m.Insts) && m.Insts[n].Node >= 0 {
		m.Self = n
	}
	m.Node = c.r.Intn(len(m.Tree)+1) - 1
	if !dict.Formed(m) {
		t.Fatal("not formed", m)
	}
	return m
}

// path: of any of the devices, with arguments here and there, seldom one that is none or leads nowhere.
func (c *clerk) path(m api.Machine) string {
	s, _ := tree.Path(m.Tree, c.r.Intn(len(m.Tree)))
	if c.seldom(2) {
		s += ":" + c.one("x", "", "a,b", "c:d", "@")
	}
	if c.seldom(3) {
		s = strings.Replace(s[1:], "/", ":"+c.one("q", "")+"/", 1)
		s = "/" + s
	}
	if c.seldom(25) {
		s += c.one("/", "/zz", "//", "@", strings.Repeat("y", api.MaxPath))
	}
	if c.seldom(40) {
		s = s[1:]
	}
	return s
}

// handle: mostly of one that is there.
func (c *clerk) handle(m api.Machine) uint32 {
	if c.seldom(30) {
		return []uint32{1<<32 - 1, 1 << 31, 0}[c.r.Intn(3)]
	}
	return uint32(c.r.Intn(len(m.Insts)+1) + 1)
}
