package inst_test

import (
	"fmt"
	"maps"
	"math"
	"slices"
	"strings"
	"testing"

	"tinder/api"
	"tinder/dict"
	"tinder/inst"
	"tinder/tree"
)

// heldOpen: does Open answer what the model does? What it answers.
func heldOpen(t *testing.T, m api.Machine, path string, fuel int) (api.Machine, api.Errno) {
	t.Helper()
	y, ih, left, e := open(t, m, path, fuel)
	x, wantIh, wantLeft, want := modelOpen(m, path, fuel)
	if e != want || ih != wantIh || left != wantLeft || !alike(y, x) {
		t.Fatalf("Open %q with %d of %v: %v, %d, %d, %v; want %v, %d, %d, %v", path, fuel, m.Insts, e, ih, left, y.Insts, want, wantIh, wantLeft, x.Insts)
	}
	return y, e
}

// heldCall: likewise of Call.
func heldCall(t *testing.T, m api.Machine, ih uint32, name string, args []uint32, fuel int) (api.Machine, api.Errno) {
	t.Helper()
	y, l, left, e := call(t, m, ih, name, args, fuel)
	x, wantL, wantLeft, want := modelCall(m, ih, name, args, fuel)
	if e != want || !slices.Equal(l, wantL) || left != wantLeft || !alike(y, x) {
		t.Fatalf("Call %d %q of %v with %d of %v: %v, %v, %d, %v; want %v, %v, %d, %v", ih, name, args, fuel, m.Insts, e, l, left, y.Insts, want, wantL, wantLeft, x.Insts)
	}
	return y, e
}

// heldShut: likewise of Close.
func heldShut(t *testing.T, m api.Machine, ih uint32, fuel int) (api.Machine, api.Errno) {
	t.Helper()
	y, left, e := shut(t, m, ih, fuel)
	x, wantLeft, want := modelShut(m, ih, fuel)
	if e != want || left != wantLeft || !alike(y, x) {
		t.Fatalf("Close %d with %d of %v: %v, %d, %v; want %v, %d, %v", ih, fuel, m.Insts, e, left, y.Insts, want, wantLeft, x.Insts)
	}
	return y, e
}

// P17.1: random calls, one behind the other on what came of those ahead, come to what the model comes to.
func TestAgainstModel(t *testing.T) {
	c := newClerk(17)
	ends := map[string]map[api.Errno]int{"Open": {}, "Call": {}, "Close": {}}
	for range 900 {
		m := c.machine(t)
		for range 12 {
			if c.seldom(3) {
				m.Stack = c.cells()
			}
			var y api.Machine
			var e api.Errno
			what := c.one("Open", "Call", "Close", "Call")
			switch what {
			case "Open":
				y, e = heldOpen(t, m, c.path(m), c.fuel())
			case "Call":
				y, e = heldCall(t, m, c.handle(m), c.name(), c.cells(), c.fuel())
			case "Close":
				y, e = heldShut(t, m, c.handle(m), c.fuel())
			}
			ends[what][e]++
			if e == api.OK {
				m = y
			}
			ih := c.handle(m)
			if l, want := chain(t, m, ih), modelChain(m, ih); !slices.Equal(l, want) {
				t.Fatalf("Chain %d of %v: %v; want %v", ih, m.Insts, l, want)
			}
		}
	}
	for what, all := range map[string][]api.Errno{
		"Open":  {api.OK, api.ErrLong, api.ErrText, api.ErrNode, api.ErrMany, api.ErrUnder, api.ErrSelf, api.ErrFuel, api.ErrThrow, api.ErrRet},
		"Call":  {api.OK, api.ErrSelf, api.ErrMethod, api.ErrOver, api.ErrUnder, api.ErrFuel, api.ErrThrow, api.ErrRet},
		"Close": {api.OK, api.ErrSelf, api.ErrExist, api.ErrUnder, api.ErrFuel, api.ErrThrow, api.ErrRet},
	} {
		for _, e := range all {
			if ends[what][e] < 5 {
				t.Errorf("%v ended %s only %d times: %v", e, what, ends[what][e], ends[what])
			}
		}
		if ends[what][api.OK] < 300 {
			t.Errorf("only %d of %s came through", ends[what][api.OK], what)
		}
	}
}

// bare: a machine with devices within one another and beside, with cells and without methods.
func bare(t testing.TB) api.Machine {
	t.Helper()
	m := dict.New()
	for _, d := range []struct {
		parent int
		name   string
		unit   []uint32
		cells  []uint32
	}{{0, "a", nil, cells(1)}, {1, "b", cells(1), nil}, {1, "b", cells(2), cells(2, 3)}, {3, "c", nil, cells(4)}, {4, "d", nil, many(api.MaxCells)}, {0, "e", cells(1, 2, 3, 4), nil}} {
		l, n, e := tree.Add(m.Tree, d.parent, d.name, d.unit)
		if e != api.OK {
			t.Fatal(d, e)
		}
		l[n].Cells = d.cells
		m.Tree = l
	}
	return m
}

// starts: rows of instances that may be there ahead: of each device or none in a few places, standing on one another or not.
func starts(m api.Machine, do func(m api.Machine)) {
	kinds := []int{-1, 1, 3}
	for k := range 81 {
		var l []api.Inst
		for d := k; len(l) < 4; d /= 3 {
			x := free()
			if node := kinds[d%3]; node >= 0 {
				x = argued(of(node, -1, anew(m.Tree[node].Cells)...), "z")
				x.Cells[0] += 50
			}
			l = append(l, x)
		}
		do(having(m, l...))
		for i := range l {
			if up := (i + 1) % len(l); i%2 == k%2 && l[i].Node >= 0 && l[up].Node >= 0 {
				l[i].Parent = up
			}
		}
		do(having(m, l...))
	}
	do(m)
	do(having(m, slices.Repeat([]api.Inst{of(2, -1)}, api.MaxInsts-4)...))
}

// chained: is what was opened a chain as long as its path, in places that were free, with the devices, arguments and cells that belong there?
func chained(t *testing.T, m, y api.Machine, ih uint32, way []int, args []string) {
	t.Helper()
	l := chain(t, y, ih)
	if len(l) != len(way) {
		t.Fatalf("on %v: %v, a chain of %d; want %d", m.Insts, y.Insts, len(l), len(way))
	}
	slices.Reverse(l)
	parent := -1
	for i, h := range l {
		at := int(h - 1)
		if at < len(m.Insts) && m.Insts[at].Node >= 0 {
			t.Fatalf("on %v: %v: the place %d was taken", m.Insts, y.Insts, at)
		}
		if !alikeInst(y.Insts[at], argued(of(way[i], parent, m.Tree[way[i]].Cells...), args[i])) {
			t.Fatalf("on %v: %v isn't of the device %d on %d, with %q", m.Insts, y.Insts[at], way[i], parent, args[i])
		}
		parent = at
	}
	restIs(t, m, y, l...)
}

// place: what is there, also where no place is any more.
func place(m api.Machine, i int) api.Inst {
	if i < len(m.Insts) {
		return m.Insts[i]
	}
	return free()
}

// restIs: is all as it was, but for the instances of these handles?
func restIs(t *testing.T, m, y api.Machine, but ...uint32) {
	t.Helper()
	if !alikeBut(m, y) {
		t.Fatalf("on %v: %v; want %v", m.Insts, y, m)
	}
	for i := range api.MaxInsts {
		if !slices.Contains(but, uint32(i+1)) && !alikeInst(place(m, i), place(y, i)) {
			t.Fatalf("on %v: %v: another one at %d", m.Insts, y.Insts, i)
		}
	}
}

// ways: the paths of the bare devices, with the devices that they lead by.
var ways = map[string][]int{"/a": {1}, "/a/b": {1, 2}, "/a/b@2": {1, 3}, "/a/b@2/c": {1, 3, 4}, "/a/b@2/c/d": {1, 3, 4, 5}, "/e": {6}}

// withArgs: the path with arguments behind its steps.
func withArgs(path string, args []string) string {
	var s strings.Builder
	for i, step := range strings.Split(path[1:], "/") {
		s.WriteString("/" + step)
		if args[i] != "" {
			s.WriteString(":" + args[i])
		}
	}
	return s.String()
}

// P17.2: each path of devices without methods is opened and closed again, without a step, whatever is alive and at work.
func TestThereAndBack(t *testing.T) {
	starts(bare(t), func(m api.Machine) {
		for path, way := range ways {
			args := []string{"", "x", "y:z", "@"}[:len(way)]
			for self := -1; self < min(2, len(m.Insts)); self++ {
				if self >= 0 && m.Insts[self].Node < 0 {
					continue
				}
				m := as(m, self)
				y, ih, left, e := open(t, m, withArgs(path, args), 0)
				if e != api.OK || left != 0 {
					t.Fatalf("%s on %v: %v", path, m.Insts, e)
				}
				chained(t, m, y, ih, way, args)
				z, left, e := shut(t, y, ih, 0)
				if e != api.OK || left != 0 {
					t.Fatalf("%s on %v: %v", path, m.Insts, e)
				}
				restIs(t, m, z)
			}
		}
	})
}

// P17.2: paths opened one behind the other are closed again in any order, each by itself.
func TestThereAndBackInAnyOrder(t *testing.T) {
	c := newClerk(172)
	for range 100 {
		m := bare(t)
		chains := map[uint32][]uint32{}
		for range 40 {
			path := c.one("/a", "/a/b", "/a/b@2", "/a/b@2/c", "/a/b@2/c/d", "/e")
			y, ih, _, e := open(t, m, path, 0)
			if alive := living(m); e == api.ErrMany && alive+len(ways[path]) > api.MaxInsts {
				l := slices.Sorted(maps.Keys(chains))
				h := l[c.r.Intn(len(l))]
				y, _, e := shut(t, m, h, 0)
				if e != api.OK || living(y) != alive-len(chains[h]) {
					t.Fatalf("Close %d of %v: %v, %v", h, m.Insts, e, y.Insts)
				}
				restIs(t, m, y, chains[h]...)
				delete(chains, h)
				m = y
				continue
			}
			if e != api.OK {
				t.Fatalf("%s on %v: %v", path, m.Insts, e)
			}
			chained(t, m, y, ih, ways[path], make([]string, 4))
			m = y
			chains[ih] = chain(t, m, ih)
		}
	}
}

// living: how many instances are alive.
func living(m api.Machine) int {
	n := 0
	for _, x := range m.Insts {
		if x.Node >= 0 {
			n++
		}
	}
	return n
}

// P17.3: what methods put into cells, each instance has for itself, whatever is opened and closed in between; new ones begin as the device says.
func TestItsOwn(t *testing.T) {
	const methods = ` : a@ a ; : a! to a ; : b@ b ; : b! to b ; : swap-both a b to a to b ; `
	m := made(t, `0 " x" new-device 1 instance value a 2 instance value b `+methods+` 0 " y" new-device 1 instance value a 2 instance value b : open 9 to a -1 ; `+methods)
	c := newClerk(173)
	book := map[uint32]map[string]uint32{}
	for range 3000 {
		var e api.Errno
		ih := uint32(c.r.Intn(api.MaxInsts) + 1)
		name := c.one("a", "b")
		switch {
		case c.seldom(6):
			var y api.Machine
			path := c.one("/x", "/x/y")
			y, ih, _, e = open(t, m, path, plenty)
			if e == api.ErrMany {
				continue
			}
			m = y
			book[ih] = map[string]uint32{"a": 1, "b": 2}
			if path == "/x/y" {
				book[chain(t, m, ih)[1]] = map[string]uint32{"a": 1, "b": 2}
				book[ih]["a"] = 9
			}
		case len(chain(t, m, ih)) == 0:
			continue
		case c.seldom(9):
			l := chain(t, m, ih)
			y, _, e := shut(t, m, ih, plenty)
			if e == api.ErrExist {
				continue
			}
			m = y
			for _, h := range l {
				delete(book, h)
			}
		case c.seldom(2):
			n := c.r.Uint32()
			m, _, _, e = call(t, m, ih, name+"!", cells(n), plenty)
			book[ih][name] = n
		case c.seldom(3):
			m, _, _, e = call(t, m, ih, "swap-both", nil, plenty)
			book[ih]["a"], book[ih]["b"] = book[ih]["b"], book[ih]["a"]
		}
		if e != api.OK {
			t.Fatal(ih, name, e)
		}
		for h, own := range book {
			if !slices.Equal(m.Insts[h-1].Cells, cells(own["a"], own["b"])) {
				t.Fatalf("%d: %v; want %v", h, m.Insts[h-1].Cells, own)
			}
		}
		if own := book[ih]; own != nil {
			if y, l, _, e := call(t, m, ih, name+"@", nil, plenty); e != api.OK || !slices.Equal(l, cells(own[name])) || !alike(y, m) {
				t.Fatalf("%s of %d: %v, %v; want %v", name, ih, l, e, own)
			}
		}
		if !slices.Equal(m.Tree[1].Cells, cells(1, 2)) || !slices.Equal(m.Tree[2].Cells, cells(1, 2)) {
			t.Fatal("the devices' cells are changed", m.Tree)
		}
		if living(m) != len(book) {
			t.Fatalf("%v; want %v", m.Insts, book)
		}
	}
	if len(book) == 0 {
		t.Error("nothing is left to be looked at")
	}
}

// spared: a list like l with spare room behind it, which is marked.
func spared[T any](l []T, mark T) []T {
	all := append(slices.Clone(l), mark, mark)
	return all[:len(l)]
}

// sparedMachine: m with marked spare room behind each of its lists.
func sparedMachine(m api.Machine) api.Machine {
	m = twin(m)
	m.Stack, m.Mem, m.Codes = spared(m.Stack, 77), spared(m.Mem, 77), spared(m.Codes, 77)
	m.Words, m.Tree, m.Insts = spared(m.Words, api.Word{N: 77}), spared(m.Tree, api.Node{Parent: 77}), spared(m.Insts, api.Inst{Node: 77})
	for i := range m.Words {
		m.Words[i].Code = spared(m.Words[i].Code, api.Op{N: 77})
	}
	for i := range m.Tree {
		d := &m.Tree[i]
		d.Unit, d.Cells, d.Props = spared(d.Unit, 77), spared(d.Cells, 77), spared(d.Props, api.Prop{Name: "mark"})
		for k := range d.Props {
			d.Props[k].Data = spared(d.Props[k].Data, 77)
		}
	}
	for i := range m.Insts {
		m.Insts[i].Cells = spared(m.Insts[i].Cells, 77)
	}
	return m
}

// all: the list with its spare room.
func all[T any](l []T) []T { return l[:cap(l)] }

// inside: m with the spare room of each of its lists laid open, told as a text.
func inside(m api.Machine) string {
	var b strings.Builder
	fmt.Fprint(&b, all(m.Stack), all(m.Mem), all(m.Codes), m.Base, m.Node, m.Self, m.Out)
	for _, w := range all(m.Words) {
		fmt.Fprintf(&b, "%q %d %d %d %v ", w.Name, w.Node, w.Kind, w.N, all(w.Code))
	}
	for _, d := range all(m.Tree) {
		fmt.Fprintf(&b, "%q %v %d %v ", d.Name, all(d.Unit), d.Parent, all(d.Cells))
		for _, p := range all(d.Props) {
			fmt.Fprintf(&b, "%q %v ", p.Name, all(p.Data))
		}
	}
	for _, x := range all(m.Insts) {
		fmt.Fprintf(&b, "%d %d %q %v ", x.Node, x.Parent, x.Args, all(x.Cells))
	}
	return b.String()
}

// overwrite: each number of a list, spare room and all.
func overwrite[T uint32 | int | byte](l []T) {
	for i := range all(l) {
		all(l)[i] ^= 1
	}
}

// scribble: writes over all that m's lists hold, spare room and all.
func scribble(m api.Machine) {
	for i, w := range all(m.Words) {
		for k := range all(w.Code) {
			all(w.Code)[k].N ^= 1
		}
		all(m.Words)[i].N ^= 1
	}
	for i, d := range all(m.Tree) {
		overwrite(d.Unit)
		overwrite(d.Cells)
		for k, p := range all(d.Props) {
			overwrite(p.Data)
			all(d.Props)[k].Name += "!"
		}
		all(m.Tree)[i].Parent ^= 1
	}
	for i, x := range all(m.Insts) {
		overwrite(x.Cells)
		all(m.Insts)[i].Parent ^= 1
	}
	overwrite(m.Stack)
	overwrite(m.Codes)
	overwrite(m.Mem)
}

// numbers: all lists of numbers that the machine has, spare room and all.
func numbers(m api.Machine) [][]uint32 {
	l := [][]uint32{all(m.Stack)}
	for _, d := range m.Tree {
		l = append(l, all(d.Unit), all(d.Cells))
	}
	for _, x := range m.Insts {
		l = append(l, all(x.Cells))
	}
	return l
}

// apart: do no two of the lists share memory? They are written over.
func apart(lists [][]uint32) bool {
	for i, l := range lists {
		for k := range l {
			l[k] = uint32(i)
		}
	}
	for i, l := range lists {
		for _, n := range l {
			if n != uint32(i) {
				return false
			}
		}
	}
	return true
}

// An answer is what a call answers: a machine, and perhaps cells.
type answer struct {
	m     api.Machine
	cells []uint32
}

func (a answer) inside() string { return inside(a.m) + fmt.Sprint(all(a.cells)) }

// shares: does the call leave its arguments as they were, and answer new memory each time?
func shares(t *testing.T, name string, start api.Machine, do func(m api.Machine, args []uint32) answer) {
	t.Helper()
	m, args := sparedMachine(start), spared(cells(3, 4), 77)
	kept := answer{m, args}.inside()
	one := do(m, args)
	if (answer{m, args}).inside() != kept {
		t.Errorf("%s changes its arguments", name)
	}
	two := do(m, args)
	said := two.inside()
	if !alike(one.m, two.m) || !slices.Equal(one.cells, two.cells) {
		t.Errorf("%s answers otherwise the second time", name)
	}
	scribble(one.m)
	overwrite(one.cells)
	if (answer{m, args}).inside() != kept {
		t.Errorf("%s: its answer shares memory with its arguments", name)
	}
	if two.inside() != said {
		t.Errorf("%s: two answers share memory", name)
	}
	scribble(m)
	overwrite(args)
	if two.inside() != said {
		t.Errorf("%s keeps its arguments", name)
	}
	if !apart(append(numbers(two.m), all(two.cells))) {
		t.Errorf("%s: two lists of an answer share memory", name)
	}
}

// P1: what is handed in is left as it was, spare room and all, and shares no memory with what is answered, nor do two lists of that; nothing is kept from call to call.
func TestNothingIsChangedOrShared(t *testing.T) {
	ofOpen := func(path string) func(m api.Machine, args []uint32) answer {
		return func(m api.Machine, args []uint32) answer { y, _, _, _ := inst.Open(m, path, 400); return answer{m: y} }
	}
	ofCall := func(ih uint32, name string) func(m api.Machine, args []uint32) answer {
		return func(m api.Machine, args []uint32) answer {
			y, l, _, _ := inst.Call(m, ih, name, args, 400)
			return answer{y, l}
		}
	}
	ofClose := func(ih uint32) func(m api.Machine, args []uint32) answer {
		return func(m api.Machine, args []uint32) answer { y, _, _ := inst.Close(m, ih, 400); return answer{m: y} }
	}
	ofChain := func(ih uint32) func(m api.Machine, args []uint32) answer {
		return func(m api.Machine, args []uint32) answer { return answer{cells: inst.Chain(m, ih)} }
	}
	m := as(holding(onDesk(t), 1, 2), 0)
	for _, m := range []api.Machine{m, having(as(m, -1)), having(as(bare(t), 0), of(1, -1, 9))} {
		for _, path := range []string{"/tty:x", "/bus/disk/part", "/bus/disk@1", "/a/b@2/c/d", "/zz", "x"} {
			shares(t, "Open "+path, m, ofOpen(path))
		}
		for ih := range uint32(api.MaxInsts) {
			for _, name := range []string{"both", "w!", "e!", "close", "zz"} {
				shares(t, fmt.Sprint("Call ", ih, name), m, ofCall(ih, name))
			}
			shares(t, fmt.Sprint("Close ", ih), m, ofClose(ih))
			shares(t, fmt.Sprint("Chain ", ih), m, ofChain(ih))
		}
	}
	c := newClerk(1)
	for range 60 {
		m := c.machine(t)
		shares(t, "Open", m, ofOpen(c.path(m)))
		ih := c.handle(m)
		shares(t, "Call", m, ofCall(ih, c.name()))
		shares(t, "Close", m, ofClose(ih))
		shares(t, "Chain", m, ofChain(ih))
	}
}

// P1: whatever is handed in, the calls end and don't panic.
func TestAnyArguments(t *testing.T) {
	machines := []api.Machine{desk(t), onDesk(t), bare(t), having(bare(t), slices.Repeat([]api.Inst{of(2, -1)}, api.MaxInsts)...)}
	for _, m := range notFormed(t) {
		machines = append(machines, m)
	}
	fuels := []int{math.MinInt, -1, 0, 50, api.MaxFuel, api.MaxFuel + 1, math.MaxInt}
	handles := []uint32{0, 1, 2, 3, 16, 17, 1<<31 - 1, 1 << 31, 1<<32 - 1}
	for _, m := range machines {
		for _, fuel := range fuels {
			for _, path := range []string{"", "/", "//", "/a", "/bus/disk:\xff", "\x00", strings.Repeat("/a", 5000), "/bus" + strings.Repeat(":", 5000), "/tty@" + strings.Repeat("1,", 100)} {
				inst.Open(m, path, fuel)
			}
			for _, ih := range handles {
				inst.Close(m, ih, fuel)
				inst.Chain(m, ih)
				for _, name := range []string{"", "open", "close", "w@", "\xff", strings.Repeat("x", 5000)} {
					inst.Call(m, ih, name, nil, fuel)
					inst.Call(m, ih, name, many(5000), fuel)
				}
			}
		}
	}
}
