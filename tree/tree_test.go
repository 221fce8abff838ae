package tree_test

import (
	"bytes"
	"math"
	"slices"
	"strings"
	"testing"

	"tinder/api"
	"tinder/path"
	"tinder/tree"
)

// longest is a name that is just as long as a name may be.
const longest = "abcdefghijklmnopqrstuvwxyz-0123"

// alikeProps: the same properties, nil or empty.
func alikeProps(a, b []api.Prop) bool {
	return slices.EqualFunc(a, b, func(x, y api.Prop) bool { return x.Name == y.Name && bytes.Equal(x.Data, y.Data) })
}

// alike: the same devices, nil or empty.
func alike(a, b []api.Node) bool {
	return slices.EqualFunc(a, b, func(x, y api.Node) bool {
		return x.Name == y.Name && slices.Equal(x.Unit, y.Unit) && x.Parent == y.Parent &&
			alikeProps(x.Props, y.Props) && slices.Equal(x.Cells, y.Cells)
	})
}

func node(parent int, name string, unit ...uint32) api.Node {
	return api.Node{Name: name, Unit: unit, Parent: parent}
}

func property(name string, data ...byte) api.Prop { return api.Prop{Name: name, Data: data} }

// several: a tree with brothers, children of children, properties and cells; made anew each time.
func several() []api.Node {
	t := []api.Node{
		node(-1, ""), node(0, "pci", 31), node(0, "pci", 31, 0), node(1, "disk"), node(2, "disk", 1), node(2, "disk"), node(5, "pci", 31),
	}
	t[0].Props = []api.Prop{property("model", 97, 98, 0)}
	t[1].Props = []api.Prop{property("reg", 0, 0, 0, 1), property("a"), property("name", 112, 0)}
	t[1].Cells = []uint32{7, 8}
	t[5].Props = []api.Prop{property("reg", 9)}
	t[6].Cells = []uint32{1<<32 - 1}
	return t
}

// many: a tree of so many devices, all of them the root's children.
func many(n int) []api.Node {
	t := []api.Node{node(-1, "")}
	for i := 1; i < n; i++ {
		t = append(t, node(0, "d", uint32(i)))
	}
	return t
}

// propsOf: so many properties.
func propsOf(n int) []api.Prop {
	var l []api.Prop
	for i := range n {
		l = append(l, property("p"+string(rune('a'+i)), byte(i)))
	}
	return l
}

// badTrees: lists that are not formed, each for one cause alone.
func badTrees() map[string][]api.Node {
	with := func(do func(t []api.Node)) []api.Node {
		t := several()
		do(t)
		return t
	}
	return map[string][]api.Node{
		"nil":                       nil,
		"empty":                     {},
		"one device too many":       many(api.MaxNodes + 1),
		"twice as many":             many(2 * api.MaxNodes),
		"the zero device":           {{}},
		"no root":                   {node(0, "a")},
		"a named root":              with(func(t []api.Node) { t[0].Name = "a" }),
		"an addressed root":         with(func(t []api.Node) { t[0].Unit = []uint32{0} }),
		"a root on itself":          with(func(t []api.Node) { t[0].Parent = 0 }),
		"a root on another":         with(func(t []api.Node) { t[0].Parent = 1 }),
		"a root on -2":              with(func(t []api.Node) { t[0].Parent = -2 }),
		"a root far below":          with(func(t []api.Node) { t[0].Parent = math.MinInt }),
		"a second root":             append(several(), node(-1, "")),
		"a device without name":     append(several(), node(0, "")),
		"a great letter":            append(several(), node(0, "aB")),
		"a blank":                   append(several(), node(0, "a b")),
		"a slash":                   append(several(), node(0, "a/b")),
		"an at":                     append(several(), node(0, "a@1")),
		"a colon":                   append(several(), node(0, "a:")),
		"a long name":               append(several(), node(0, longest+"4")),
		"a long unit":               append(several(), node(0, "a", 1, 2, 3, 4, 5)),
		"its own parent":            append(several(), node(7, "a")),
		"a later parent":            append(several(), node(8, "a"), node(0, "b")),
		"a later parent in between": with(func(t []api.Node) { t[1].Parent = 2 }),
		"two that stand on another": with(func(t []api.Node) { t[1].Parent, t[2].Parent = 2, 1 }),
		"a parent that isn't there": append(several(), node(100, "a")),
		"a parent far above":        append(several(), node(math.MaxInt, "a")),
		"a parent -1":               append(several(), node(-1, "a")),
		"a parent -2":               append(several(), node(-2, "a")),
		"a parent far below":        append(several(), node(math.MinInt, "a")),
		"two brothers alike":        append(several(), node(0, "pci", 31)),
		"two without address":       append(several(), node(1, "disk")),
		"nil and empty":             append(several(), api.Node{Name: "disk", Parent: 1, Unit: []uint32{}}),
		"alike at the end":          append(several(), node(6, "x", 1, 2, 3, 4), node(6, "y"), node(6, "x", 1, 2, 3, 4)),
		"too many properties":       with(func(t []api.Node) { t[3].Props = propsOf(api.MaxProps + 1) }),
		"too many of the root":      with(func(t []api.Node) { t[0].Props = propsOf(api.MaxProps + 1) }),
		"a property without name":   with(func(t []api.Node) { t[3].Props = []api.Prop{property("")} }),
		"a property that is none":   with(func(t []api.Node) { t[3].Props = []api.Prop{property("a"), property("Reg")} }),
		"a property with a long":    with(func(t []api.Node) { t[3].Props = []api.Prop{property(longest + "4")} }),
		"two properties alike":      with(func(t []api.Node) { t[1].Props = append(t[1].Props, property("reg", 5)) }),
		"two alike of the root":     with(func(t []api.Node) { t[0].Props = append(t[0].Props, property("model", 97, 98, 0)) }),
		"a long property":           with(func(t []api.Node) { t[6].Props = []api.Prop{property("a", make([]byte, api.MaxData+1)...)} }),
		"too many cells":            with(func(t []api.Node) { t[6].Cells = make([]uint32, api.MaxCells+1) }),
		"too many of the root's":    with(func(t []api.Node) { t[0].Cells = make([]uint32, api.MaxCells+1) }),
	}
}

// goodTrees: lists that are formed, at the limits too.
func goodTrees() map[string][]api.Node {
	with := func(do func(t []api.Node)) []api.Node {
		t := several()
		do(t)
		return t
	}
	full := many(api.MaxNodes)
	deep := []api.Node{node(-1, "")}
	for i := 1; i < api.MaxNodes; i++ {
		deep = append(deep, node(i-1, "d"))
	}
	for n := range full {
		full[n].Props = propsOf(api.MaxProps)
		full[n].Cells = make([]uint32, api.MaxCells)
		for i := range full[n].Props {
			full[n].Props[i].Data = make([]byte, api.MaxData)
		}
	}
	return map[string][]api.Node{
		"the root":              {node(-1, "")},
		"the root, with lists":  {{Parent: -1, Unit: []uint32{}, Props: []api.Prop{}, Cells: []uint32{}}},
		"several":               several(),
		"as many as may be":     many(api.MaxNodes),
		"full":                  full,
		"as deep as may be":     deep,
		"a long name":           append(several(), node(0, longest)),
		"a long unit":           append(several(), node(0, "a", 1, 2, 3, 1<<32-1)),
		"the last as parent":    append(several(), node(6, "pci", 31)),
		"name and unit, apart":  append(several(), node(0, "pci"), node(0, "pci", 0), node(0, "pci", 31, 0, 0), node(0, "pcj", 31), node(0, "pc", 31)),
		"alike, elsewhere":      append(several(), node(3, "pci", 31), node(4, "pci", 31), node(0, "disk")),
		"signs":                 append(several(), node(0, "!~,;-+.")),
		"properties":            with(func(t []api.Node) { t[3].Props = propsOf(api.MaxProps) }),
		"properties, elsewhere": with(func(t []api.Node) { t[3].Props, t[4].Props = propsOf(3), propsOf(3) }),
		"a long property":       with(func(t []api.Node) { t[6].Props = []api.Prop{property(longest, make([]byte, api.MaxData)...)} }),
		"cells":                 with(func(t []api.Node) { t[0].Cells = make([]uint32, api.MaxCells) }),
	}
}

// P8.1: the chapter's examples.
func TestExamples(t *testing.T) {
	x, n, e := tree.Add(tree.New(), 0, "pci", []uint32{0x1f})
	if n != 1 || e != api.OK {
		t.Fatal(n, e)
	}
	x, n, e = tree.Add(x, 1, "disk", nil)
	if n != 2 || e != api.OK {
		t.Fatal(n, e)
	}
	if s, e := tree.Path(x, 2); s != "/pci@1f/disk" || e != api.OK {
		t.Error(s, e)
	}
	steps, _ := path.Parse("/pci/disk")
	if n, e := tree.Find(x, steps); n != 2 || e != api.OK {
		t.Error(n, e)
	}
	if y, n, e := tree.Add(x, 0, "pci", []uint32{0x1f}); len(y) != 0 || n != 0 || e != api.ErrExist {
		t.Error(y, n, e)
	}
	x, e = tree.Set(x, 2, "reg", []byte{0, 0, 0, 1})
	if e != api.OK {
		t.Fatal(e)
	}
	if s, e := tree.Next(x, 2, ""); s != "reg" || e != api.OK {
		t.Error(s, e)
	}
	if s, e := tree.Next(x, 2, "reg"); s != "" || e != api.OK {
		t.Error(s, e)
	}
}

// P8.1: the new tree is the root alone, each time in new memory.
func TestNew(t *testing.T) {
	want := []api.Node{{Parent: -1}}
	x := tree.New()
	if !alike(x, want) || !tree.Formed(x) {
		t.Error(x)
	}
	x[0] = node(5, "gone", 1)
	if y := tree.New(); !alike(y, want) {
		t.Error(y)
	}
}

// P8.1: what is formed, and what is not.
func TestFormed(t *testing.T) {
	for what, x := range goodTrees() {
		if !tree.Formed(x) {
			t.Errorf("%s: not formed", what)
		}
	}
	for what, x := range badTrees() {
		if tree.Formed(x) {
			t.Errorf("%s: formed", what)
		}
	}
}

// P8.1: any list is copied.
func TestCopy(t *testing.T) {
	for what, x := range goodTrees() {
		if y := tree.Copy(x); !alike(x, y) {
			t.Errorf("%s: %v", what, y)
		}
	}
	for what, x := range badTrees() {
		if y := tree.Copy(x); !alike(x, y) {
			t.Errorf("%s: %v", what, y)
		}
	}
}

// A call by any of the functions that a list may be refused by: is all but its error nothing?
type call struct {
	name string
	do   func(x []api.Node, n int) (api.Errno, bool)
}

// calls: each function that takes a tree and a device.
func calls(name string) []call {
	return []call{
		{"Add", func(x []api.Node, n int) (api.Errno, bool) {
			y, at, e := tree.Add(x, n, name, nil)
			return e, len(y) == 0 && at == 0
		}},
		{"Add a long unit", func(x []api.Node, n int) (api.Errno, bool) {
			y, at, e := tree.Add(x, n, name, make([]uint32, api.MaxUnit+1))
			return e, len(y) == 0 && at == 0
		}},
		{"Set", func(x []api.Node, n int) (api.Errno, bool) {
			y, e := tree.Set(x, n, name, []byte{1})
			return e, len(y) == 0
		}},
		{"Set long", func(x []api.Node, n int) (api.Errno, bool) {
			y, e := tree.Set(x, n, name, make([]byte, api.MaxData+1))
			return e, len(y) == 0
		}},
		{"Drop", func(x []api.Node, n int) (api.Errno, bool) {
			y, e := tree.Drop(x, n, name)
			return e, len(y) == 0
		}},
		{"Get", func(x []api.Node, n int) (api.Errno, bool) {
			b, e := tree.Get(x, n, name)
			return e, len(b) == 0
		}},
		{"Next", func(x []api.Node, n int) (api.Errno, bool) {
			s, e := tree.Next(x, n, name)
			return e, s == ""
		}},
		{"Path", func(x []api.Node, n int) (api.Errno, bool) {
			s, e := tree.Path(x, n)
			return e, s == ""
		}},
	}
}

// P8.1: a list that isn't formed is refused ahead of all else.
func TestNotFormed(t *testing.T) {
	for what, x := range badTrees() {
		for _, name := range []string{"reg", "model", "zz", "", "A", longest + "4"} {
			for _, c := range calls(name) {
				for _, n := range []int{0, 1, 3, 6, 7, len(x), -1, 1000, math.MinInt, math.MaxInt} {
					if e, nothing := c.do(x, n); e != api.ErrArg || !nothing {
						t.Errorf("%s: %s of %d, %q: %v, %v", what, c.name, n, name, e, nothing)
					}
				}
			}
		}
		for _, l := range [][]api.Step{nil, {{Name: "pci"}}, {{Name: "nowhere"}}} {
			if n, e := tree.Find(x, l); n != 0 || e != api.ErrArg {
				t.Errorf("%s: Find %v: %d, %v", what, l, n, e)
			}
		}
	}
}

// P8.1: what is no device of the tree is refused ahead of names, lengths and what is there.
func TestNoDevice(t *testing.T) {
	for what, x := range goodTrees() {
		for _, name := range []string{"reg", "model", "zz", "", "A", longest + "4"} {
			for _, c := range calls(name) {
				for _, n := range []int{-1, -2, len(x), len(x) + 1, 1000, 1 << 32, 1<<32 + 1, -1 << 32, math.MinInt, math.MaxInt} {
					if e, nothing := c.do(x, n); e != api.ErrNode || !nothing {
						t.Errorf("%s: %s of %d, %q: %v, %v", what, c.name, n, name, e, nothing)
					}
				}
			}
		}
	}
}

// P8.1: a device is added behind all others, under any parent.
func TestAdd(t *testing.T) {
	for _, unit := range [][]uint32{nil, {}, {0}, {31}, {31, 0}, {1, 2, 3, 1<<32 - 1}} {
		for _, name := range []string{"a", "net", "!~", longest} {
			for parent := range several() {
				y, n, e := tree.Add(several(), parent, name, unit)
				want := append(several(), node(parent, name, unit...))
				if n != 7 || e != api.OK || !alike(y, want) || !tree.Formed(y) {
					t.Errorf("Add %d, %q, %v: %v, %d, %v", parent, name, unit, y, n, e)
				}
			}
		}
	}
}

// P8.1: what may not be added, and which error comes first.
func TestAddRefused(t *testing.T) {
	full := many(api.MaxNodes)
	for _, c := range []struct {
		x      []api.Node
		parent int
		name   string
		unit   []uint32
		want   api.Errno
	}{
		{several(), 0, "", nil, api.ErrArg},
		{several(), 0, "A", nil, api.ErrArg},
		{several(), 0, "a b", nil, api.ErrArg},
		{several(), 0, "a/b", nil, api.ErrArg},
		{several(), 0, "a@1", nil, api.ErrArg},
		{several(), 0, "a:b", nil, api.ErrArg},
		{several(), 0, "a\x7f", nil, api.ErrArg},
		{several(), 0, longest + "4", nil, api.ErrArg},
		{several(), 0, "a", make([]uint32, api.MaxUnit+1), api.ErrArg},
		{several(), 0, "a", make([]uint32, 1000), api.ErrArg},
		{several(), 0, "pci", []uint32{31}, api.ErrExist},
		{several(), 0, "pci", []uint32{31, 0}, api.ErrExist},
		{several(), 1, "disk", nil, api.ErrExist},
		{several(), 1, "disk", []uint32{}, api.ErrExist},
		{several(), 2, "disk", []uint32{1}, api.ErrExist},
		{several(), 5, "pci", []uint32{31}, api.ErrExist},
		{several(), 0, "pci", nil, api.OK},
		{several(), 0, "pci", []uint32{0}, api.OK},
		{several(), 0, "pci", []uint32{31, 0, 0}, api.OK},
		{several(), 0, "pci", []uint32{0, 31}, api.OK},
		{several(), 1, "disk", []uint32{0}, api.OK},
		{several(), 1, "disk", []uint32{1}, api.OK},
		{several(), 3, "disk", nil, api.OK},
		{several(), 1, "pci", []uint32{31}, api.OK},
		{many(api.MaxNodes - 1), 0, "d", []uint32{32}, api.OK},
		{many(api.MaxNodes - 1), 30, "d", []uint32{32}, api.OK},
		{full, 0, "d", []uint32{32}, api.ErrMany},
		{full, 31, "d", []uint32{1}, api.ErrMany},
		{full, 0, "d", []uint32{1}, api.ErrExist},
		{full, 0, "d", []uint32{31}, api.ErrExist},
		{full, 0, "D", []uint32{1}, api.ErrArg},
		{full, 0, "", nil, api.ErrArg},
		{full, 0, "d", make([]uint32, api.MaxUnit+1), api.ErrArg},
		{full, 32, "d", []uint32{1}, api.ErrNode},
		{many(api.MaxNodes + 1), 0, "e", nil, api.ErrArg},
	} {
		y, n, e := tree.Add(c.x, c.parent, c.name, c.unit)
		if e != c.want || e != api.OK && (len(y) != 0 || n != 0) {
			t.Errorf("Add %d, %q, %v to %d: %v, %d, %v; want %v", c.parent, c.name, c.unit, len(c.x), y, n, e, c.want)
		}
		if e == api.OK && (n != len(c.x) || len(y) != n+1 || !tree.Formed(y)) {
			t.Errorf("Add %d, %q, %v to %d: %v, %d", c.parent, c.name, c.unit, len(c.x), y, n)
		}
	}
}

// P8.1: trees are built up to their limit, in breadth and in depth, and not beyond it.
func TestAddToTheLimit(t *testing.T) {
	for _, parentOf := range []func(n int) int{func(int) int { return 0 }, func(n int) int { return n - 1 }, func(n int) int { return (n - 1) / 2 }} {
		x := tree.New()
		for n := 1; n < api.MaxNodes; n++ {
			y, at, e := tree.Add(x, parentOf(n), "d", []uint32{uint32(n)})
			if at != n || e != api.OK || !tree.Formed(y) || !alike(y[:n], x) {
				t.Fatal(n, at, e)
			}
			x = y
		}
		if y, n, e := tree.Add(x, parentOf(api.MaxNodes), "d", []uint32{api.MaxNodes}); len(y) != 0 || n != 0 || e != api.ErrMany {
			t.Error(y, n, e)
		}
	}
}

// P8.1: a property is set in its place, or behind all others.
func TestSet(t *testing.T) {
	for _, data := range [][]byte{nil, {}, {0}, {1, 2, 3}, bytes.Repeat([]byte{9}, api.MaxData)} {
		for n, d := range several() {
			for _, name := range []string{"reg", "a", "name", "model", "new", "!~", longest} {
				want := several()
				at := slices.IndexFunc(d.Props, func(p api.Prop) bool { return p.Name == name })
				if at < 0 {
					want[n].Props = append(want[n].Props, property(name, data...))
				} else {
					want[n].Props[at].Data = data
				}
				y, e := tree.Set(several(), n, name, data)
				if e != api.OK || !alike(y, want) || !tree.Formed(y) {
					t.Errorf("Set %d, %q, %v: %v, %v", n, name, data, y, e)
				}
			}
		}
	}
}

// P8.1: what may not be set, and which error comes first.
func TestSetRefused(t *testing.T) {
	x := several()
	x[3].Props = propsOf(api.MaxProps)
	x[4].Props = propsOf(api.MaxProps - 1)
	long := make([]byte, api.MaxData+1)
	for _, c := range []struct {
		n    int
		name string
		data []byte
		want api.Errno
	}{
		{0, "", nil, api.ErrArg},
		{0, "A", nil, api.ErrArg},
		{0, "a b", nil, api.ErrArg},
		{0, "a:", nil, api.ErrArg},
		{0, "a\xff", nil, api.ErrArg},
		{0, longest + "4", nil, api.ErrArg},
		{0, "", long, api.ErrArg},
		{3, "A", long, api.ErrArg},
		{3, "A", nil, api.ErrArg},
		{0, "model", long, api.ErrLong},
		{0, "new", long, api.ErrLong},
		{0, "new", make([]byte, 10000), api.ErrLong},
		{0, "new", long[1:], api.OK},
		{0, "model", long[1:], api.OK},
		{3, "new", long, api.ErrLong},
		{3, "new", long[1:], api.ErrMany},
		{3, "new", nil, api.ErrMany},
		{3, "reg", nil, api.ErrMany},
		{3, "pa", nil, api.OK},
		{3, "pp", []byte{1}, api.OK},
		{3, "pp", long, api.ErrLong},
		{4, "new", nil, api.OK},
		{4, "pp", nil, api.OK},
		{7, "A", long, api.ErrNode},
	} {
		y, e := tree.Set(x, c.n, c.name, c.data)
		if e != c.want || e != api.OK && len(y) != 0 {
			t.Errorf("Set %d, %q, %d bytes: %v, %v; want %v", c.n, c.name, len(c.data), y, e, c.want)
		}
		if e != api.OK {
			continue
		}
		if b, e := tree.Get(y, c.n, c.name); !tree.Formed(y) || e != api.OK || !bytes.Equal(b, c.data) {
			t.Errorf("Set %d, %q, %d bytes: got %v, %v", c.n, c.name, len(c.data), b, e)
		}
	}
}

// P8.1: the first, the last, one in between and the only property are dropped, the others stay in their order.
func TestDrop(t *testing.T) {
	for _, c := range []struct {
		n    int
		name string
		want []api.Prop
	}{
		{1, "reg", []api.Prop{property("a"), property("name", 112, 0)}},
		{1, "a", []api.Prop{property("reg", 0, 0, 0, 1), property("name", 112, 0)}},
		{1, "name", []api.Prop{property("reg", 0, 0, 0, 1), property("a")}},
		{0, "model", nil},
		{5, "reg", nil},
	} {
		want := several()
		want[c.n].Props = c.want
		y, e := tree.Drop(several(), c.n, c.name)
		if e != api.OK || !alike(y, want) || !tree.Formed(y) {
			t.Errorf("Drop %d, %q: %v, %v", c.n, c.name, y, e)
		}
		if z, e := tree.Drop(y, c.n, c.name); len(z) != 0 || e != api.ErrNone {
			t.Errorf("Drop %d, %q again: %v, %v", c.n, c.name, z, e)
		}
	}
}

// P8.1: a property that isn't there, or that is another device's, is told as none.
func TestNoProperty(t *testing.T) {
	for _, c := range []struct {
		n    int
		name string
	}{
		{0, "reg"}, {0, "mode"}, {0, "modell"}, {0, "Model"}, {0, "A"}, {0, longest + "4"}, {1, "model"}, {1, "re"}, {2, "reg"}, {3, "a"}, {5, "name"}, {6, "reg"},
	} {
		if y, e := tree.Drop(several(), c.n, c.name); len(y) != 0 || e != api.ErrNone {
			t.Errorf("Drop %d, %q: %v, %v", c.n, c.name, y, e)
		}
		if b, e := tree.Get(several(), c.n, c.name); len(b) != 0 || e != api.ErrNone {
			t.Errorf("Get %d, %q: %v, %v", c.n, c.name, b, e)
		}
		if s, e := tree.Next(several(), c.n, c.name); s != "" || e != api.ErrNone {
			t.Errorf("Next %d, %q: %q, %v", c.n, c.name, s, e)
		}
	}
	for n := range several() {
		if y, e := tree.Drop(several(), n, ""); len(y) != 0 || e != api.ErrNone {
			t.Errorf("Drop %d of no name: %v, %v", n, y, e)
		}
		if b, e := tree.Get(several(), n, ""); len(b) != 0 || e != api.ErrNone {
			t.Errorf("Get %d of no name: %v, %v", n, b, e)
		}
	}
}

// P8.1: a property's bytes are got.
func TestGet(t *testing.T) {
	for n, d := range several() {
		for _, p := range d.Props {
			if b, e := tree.Get(several(), n, p.Name); e != api.OK || !bytes.Equal(b, p.Data) {
				t.Errorf("Get %d, %q: %v, %v", n, p.Name, b, e)
			}
		}
	}
}

// P8.1: the next property's name, from none at all to behind the last.
func TestNext(t *testing.T) {
	for _, c := range []struct {
		n          int
		name, want string
	}{
		{0, "", "model"}, {0, "model", ""}, {1, "", "reg"}, {1, "reg", "a"}, {1, "a", "name"}, {1, "name", ""}, {2, "", ""}, {3, "", ""}, {5, "", "reg"}, {5, "reg", ""}, {6, "", ""},
	} {
		if s, e := tree.Next(several(), c.n, c.name); s != c.want || e != api.OK {
			t.Errorf("Next %d, %q: %q, %v; want %q", c.n, c.name, s, e, c.want)
		}
	}
}

// P8.1: the children of a device, of lists that are formed and of such that are not.
func TestChildren(t *testing.T) {
	odd := []api.Node{node(0, ""), node(5, "A"), node(5, "A"), node(-1, ""), node(2, ""), node(math.MaxInt, ""), node(math.MinInt, ""), node(-1, "b"), node(0, "b")}
	for _, c := range []struct {
		x    []api.Node
		n    int
		want []int
	}{
		{several(), 0, []int{1, 2}},
		{several(), 1, []int{3}},
		{several(), 2, []int{4, 5}},
		{several(), 3, nil},
		{several(), 4, nil},
		{several(), 5, []int{6}},
		{several(), 6, nil},
		{several(), 7, nil},
		{several(), -1, nil},
		{several(), math.MaxInt, nil},
		{several(), math.MinInt, nil},
		{tree.New(), 0, nil},
		{tree.New(), -1, nil},
		{nil, 0, nil},
		{nil, -1, nil},
		{[]api.Node{}, 0, nil},
		{odd, 0, []int{0, 8}},
		{odd, 1, nil},
		{odd, 2, []int{4}},
		{odd, 5, []int{1, 2}},
		{odd, -1, nil},
		{odd, -2, nil},
		{odd, math.MaxInt, []int{5}},
		{odd, math.MinInt, nil},
	} {
		if l := tree.Children(c.x, c.n); !slices.Equal(l, c.want) {
			t.Errorf("Children of %d of %v: %v; want %v", c.n, c.x, l, c.want)
		}
	}
	if l := tree.Children(many(100), 0); len(l) != 99 || l[0] != 1 || l[98] != 99 {
		t.Error(l)
	}
}

// P8.1: where steps lead, or that they lead nowhere.
func TestFind(t *testing.T) {
	step := func(name string, unit ...uint32) api.Step { return api.Step{Name: name, Unit: unit} }
	for _, c := range []struct {
		l    []api.Step
		want int
		e    api.Errno
	}{
		{nil, 0, api.OK},
		{[]api.Step{}, 0, api.OK},
		{[]api.Step{step("pci")}, 1, api.OK},
		{[]api.Step{{Name: "pci", Unit: []uint32{}}}, 1, api.OK},
		{[]api.Step{step("pci", 31)}, 1, api.OK},
		{[]api.Step{step("pci", 31, 0)}, 2, api.OK},
		{[]api.Step{step("pci", 0)}, 0, api.ErrNode},
		{[]api.Step{step("pci", 31, 0, 0)}, 0, api.ErrNode},
		{[]api.Step{step("pci", 31, 0, 0, 0, 0)}, 0, api.ErrNode},
		{[]api.Step{step("disk")}, 0, api.ErrNode},
		{[]api.Step{step("")}, 0, api.ErrNode},
		{[]api.Step{step("PCI")}, 0, api.ErrNode},
		{[]api.Step{step("pc")}, 0, api.ErrNode},
		{[]api.Step{step("pcii")}, 0, api.ErrNode},
		{[]api.Step{step("/")}, 0, api.ErrNode},
		{[]api.Step{step("pci"), step("disk")}, 3, api.OK},
		{[]api.Step{step("pci"), step("disk", 1)}, 0, api.ErrNode},
		{[]api.Step{step("pci", 31, 0), step("disk")}, 4, api.OK},
		{[]api.Step{step("pci", 31, 0), step("disk", 1)}, 4, api.OK},
		{[]api.Step{step("pci", 31, 0), step("disk"), step("pci")}, 0, api.ErrNode},
		{[]api.Step{step("pci"), step("pci")}, 0, api.ErrNode},
		{[]api.Step{step("disk"), step("pci")}, 0, api.ErrNode},
		{[]api.Step{step("pci"), step("disk"), step("")}, 0, api.ErrNode},
		{[]api.Step{step(""), step("pci")}, 0, api.ErrNode},
		{[]api.Step{{Name: "pci", Args: "x"}, {Name: "disk", Args: "/:@\x00"}}, 3, api.OK},
		{[]api.Step{{Name: "pci", Unit: []uint32{31, 0}, Args: "31"}}, 2, api.OK},
		{[]api.Step{{Name: "pci", Args: strings.Repeat("x", 300)}}, 1, api.OK},
		{[]api.Step{{Args: "pci"}}, 0, api.ErrNode},
	} {
		if n, e := tree.Find(several(), c.l); n != c.want || e != c.e {
			t.Errorf("Find %v: %d, %v; want %d, %v", c.l, n, e, c.want, c.e)
		}
	}
	long := make([]api.Step, 1000)
	if n, e := tree.Find(several(), long); n != 0 || e != api.ErrNode {
		t.Error(n, e)
	}
	// An elder brother without an address is meant by a step without one, and not by a step with one.
	x := []api.Node{node(-1, ""), node(0, "a"), node(0, "a", 1), node(1, "b"), node(2, "b")}
	for want, l := range [][]api.Step{nil, {step("a")}, {step("a", 1)}, {step("a"), step("b")}, {step("a", 1), step("b")}} {
		if n, e := tree.Find(x, l); n != want || e != api.OK {
			t.Errorf("Find %v: %d, %v; want %d", l, n, e, want)
		}
	}
}

// P8.1: the path of each device.
func TestPath(t *testing.T) {
	for n, want := range []string{"/", "/pci@1f", "/pci@1f,0", "/pci@1f/disk", "/pci@1f,0/disk@1", "/pci@1f,0/disk", "/pci@1f,0/disk/pci@1f"} {
		if s, e := tree.Path(several(), n); s != want || e != api.OK {
			t.Errorf("Path %d: %q, %v; want %q", n, s, e, want)
		}
	}
	x := append(several(), node(6, "!~", 0, 10, 1<<32-1, 255))
	if s, e := tree.Path(x, 7); s != "/pci@1f,0/disk/pci@1f/!~@0,a,ffffffff,ff" || e != api.OK {
		t.Error(s, e)
	}
	if s, e := tree.Path(tree.New(), 0); s != "/" || e != api.OK {
		t.Error(s, e)
	}
}

// P8.1: a path of MaxPath bytes is told, a longer one is not, though the tree is formed.
func TestPathLength(t *testing.T) {
	x := tree.New()
	for n := range 7 {
		x, _, _ = tree.Add(x, n, longest, nil)
	}
	ahead := 7 * (1 + len(longest))
	for bytes := 2; bytes <= 1+len(longest); bytes++ {
		y, n, _ := tree.Add(x, 7, longest[:bytes-1], nil)
		if s, e := tree.Path(y, n); len(s) != ahead+bytes || e != api.OK {
			t.Errorf("%d bytes: %q, %v", ahead+bytes, s, e)
		}
		// The mark and the digits of an address count too.
		y, n, _ = tree.Add(x, 7, longest[:bytes-1], []uint32{15})
		wantLong := ahead+bytes+2 > api.MaxPath
		if s, e := tree.Path(y, n); (e == api.ErrLong) != wantLong || wantLong != (s == "") {
			t.Errorf("%d bytes: %q, %v", ahead+bytes+2, s, e)
		}
	}
	x, n, _ := tree.Add(x, 7, longest, nil)
	if s, e := tree.Path(x, n); len(s) != api.MaxPath || e != api.OK {
		t.Error(len(s), e)
	}
	x, n, e := tree.Add(x, n, "a", nil)
	if s, e2 := tree.Path(x, n); e != api.OK || s != "" || e2 != api.ErrLong {
		t.Error(e, s, e2)
	}
	if s, e := tree.Path(x, n-1); len(s) != api.MaxPath || e != api.OK {
		t.Error(len(s), e)
	}
}
