package tree_test

import (
	"bytes"
	"fmt"
	"math/rand"
	"slices"
	"strings"
	"testing"

	"tinder/api"
	"tinder/path"
	"tinder/tree"
)

// byKeys: is a list formed, told by a text for each device that no other one may have?
func byKeys(x []api.Node) bool {
	seen := map[string]int{}
	for n, d := range x {
		if n == 0 {
			if d.Name != "" || len(d.Unit) != 0 || d.Parent != -1 {
				return false
			}
			continue
		}
		key := fmt.Sprint(d.Parent, d.Name, d.Unit)
		seen[key]++
		if seen[key] > 1 || d.Name == "" || d.Parent < 0 || d.Parent >= n {
			return false
		}
	}
	return len(x) > 0
}

// smallTrees: each list of at most so many devices of few names, addresses and parents.
func smallTrees(most int, do func(x []api.Node)) {
	var add func(x []api.Node)
	add = func(x []api.Node) {
		do(x)
		if len(x) == most {
			return
		}
		for parent := -1; parent <= len(x); parent++ {
			for _, name := range []string{"", "a", "b"} {
				for _, unit := range [][]uint32{nil, {0}} {
					add(append(slices.Clone(x), node(parent, name, unit...)))
				}
			}
		}
	}
	add(nil)
}

// smallFormed: those of them that are formed.
func smallFormed(most int, do func(x []api.Node)) {
	var add func(x []api.Node)
	add = func(x []api.Node) {
		do(x)
		if len(x) == most {
			return
		}
		for parent := range x {
			for _, name := range []string{"a", "b"} {
				for _, unit := range [][]uint32{nil, {0}, {1}} {
					y := append(slices.Clone(x), node(parent, name, unit...))
					if byKeys(y) {
						add(y)
					}
				}
			}
		}
	}
	add([]api.Node{node(-1, "")})
}

// P8.1: small lists of all kinds are formed just where their keys say so.
func TestFormedIsByKeys(t *testing.T) {
	smallTrees(4, func(x []api.Node) {
		if got, want := tree.Formed(x), byKeys(x); got != want {
			t.Fatalf("%v: %v; want %v", x, got, want)
		}
	})
}

// P8.1: a device is added to a small tree just where the tree with it is formed.
func TestAddIsByKeys(t *testing.T) {
	smallFormed(4, func(x []api.Node) {
		for parent := range x {
			for _, unit := range [][]uint32{nil, {0}, {1}, {0, 0}} {
				want := append(slices.Clone(x), node(parent, "a", unit...))
				y, n, e := tree.Add(x, parent, "a", unit)
				switch {
				case byKeys(want):
					if !alike(y, want) || n != len(x) || e != api.OK || !tree.Formed(y) {
						t.Fatalf("%v: Add %d, %v: %v, %d, %v", x, parent, unit, y, n, e)
					}
				case len(y) != 0 || n != 0 || e != api.ErrExist:
					t.Fatalf("%v: Add %d, %v: %v, %d, %v", x, parent, unit, y, n, e)
				}
			}
		}
	})
}

// elder: has any device on the way to n an elder brother of its name, having no unit address itself?
func elder(x []api.Node, n int) bool {
	for ; n > 0; n = x[n].Parent {
		for _, d := range x[:n] {
			if len(x[n].Unit) == 0 && d.Parent == x[n].Parent && d.Name == x[n].Name {
				return true
			}
		}
	}
	return false
}

// P8.2: the steps of a device's path lead to it, but for those that an elder brother takes.
func TestPathLeadsBack(t *testing.T) {
	smallFormed(5, func(x []api.Node) {
		for n := range x {
			s, e := tree.Path(x, n)
			l, e2 := path.Parse(s)
			got, e3 := tree.Find(x, l)
			if e != api.OK || e2 != api.OK || e3 == api.OK && elder(x, n) == (got == n) || e3 != api.OK && !elder(x, n) {
				t.Fatalf("%v: %d: %q, %v; leads to %d, %v", x, n, s, e, got, e3)
			}
		}
	})
}

// P8.1: steps lead from a device to the first of its children that they mean.
func TestStepsLeadToChildren(t *testing.T) {
	steps := []api.Step{{Name: "a"}, {Name: "b"}, {Name: "a", Unit: []uint32{0}}, {Name: "b", Unit: []uint32{1}}, {Name: "c"}}
	smallFormed(4, func(x []api.Node) {
		for _, first := range steps {
			for _, second := range steps {
				want, e := 0, api.OK
				for _, step := range []api.Step{first, second} {
					to := -1
					for _, c := range slices.Backward(tree.Children(x, want)) {
						if x[c].Name == step.Name && (len(step.Unit) == 0 || slices.Equal(step.Unit, x[c].Unit)) {
							to = c
						}
					}
					if to < 0 {
						want, e = 0, api.ErrNode
						break
					}
					want = to
				}
				if n, e2 := tree.Find(x, []api.Step{first, second}); n != want || e2 != e {
					t.Fatalf("%v: %v, %v: %d, %v; want %d, %v", x, first, second, n, e2, want, e)
				}
			}
		}
	})
}

// P8.1: each device but the root is the child of one other, and of its parent.
func TestChildrenAreOfParents(t *testing.T) {
	smallFormed(5, func(x []api.Node) {
		parents := make([]int, len(x))
		parents[0] = -1
		count := 1
		for n := range x {
			l := tree.Children(x, n)
			if !slices.IsSorted(l) {
				t.Fatalf("%v: children of %d: %v", x, n, l)
			}
			for _, c := range l {
				parents[c] = n
				count++
			}
		}
		for n, d := range x {
			if parents[n] != d.Parent || count != len(x) {
				t.Fatalf("%v: %v", x, parents)
			}
		}
	})
}

// names: what going by Next tells.
func names(t *testing.T, x []api.Node, n int) []string {
	t.Helper()
	var l []string
	for name := ""; len(l) <= api.MaxProps; {
		next, e := tree.Next(x, n, name)
		if e != api.OK {
			t.Fatalf("Next %d, %q: %v", n, name, e)
		}
		if next == "" {
			return l
		}
		l = append(l, next)
		name = next
	}
	t.Fatalf("Next goes on and on: %v", l)
	return nil
}

// A book is a device's properties as a map and the order of their names.
type book struct {
	data  map[string]string
	order []string
}

// agree: does each device have just what its book says, by Get and by Next?
func agree(t *testing.T, x []api.Node, books []book) {
	t.Helper()
	for n, b := range books {
		if l := names(t, x, n); !slices.Equal(l, b.order) {
			t.Fatalf("device %d: %v; want %v", n, l, b.order)
		}
		for name, want := range b.data {
			if got, e := tree.Get(x, n, name); string(got) != want || e != api.OK {
				t.Fatalf("device %d, %q: %q, %v; want %q", n, name, got, e, want)
			}
		}
	}
}

// P8.1, P8.2: however properties are set and dropped, what was set is got, all else stays, Next tells each once, and the tree is formed.
func TestPropertiesByBooks(t *testing.T) {
	chance := rand.New(rand.NewSource(8))
	x := several()
	books := make([]book, len(x))
	for n, d := range x {
		books[n].data = map[string]string{}
		for _, p := range d.Props {
			books[n].data[p.Name] = string(p.Data)
			books[n].order = append(books[n].order, p.Name)
		}
	}
	full := 0
	for range 1000 {
		n := chance.Intn(len(x))
		b := &books[n]
		name := string(rune('a' + chance.Intn(20)))
		_, there := b.data[name]
		if chance.Intn(4) == 0 {
			y, e := tree.Drop(x, n, name)
			if (e == api.OK) != there || e != api.OK && e != api.ErrNone {
				t.Fatalf("Drop %d, %q: %v", n, name, e)
			}
			if e == api.OK {
				delete(b.data, name)
				b.order = slices.DeleteFunc(b.order, func(s string) bool { return s == name })
				x = y
			}
		} else {
			data := strings.Repeat(string(rune('A'+chance.Intn(26))), chance.Intn(api.MaxData+1))
			y, e := tree.Set(x, n, name, []byte(data))
			if !there && len(b.order) == api.MaxProps {
				full++
				if e != api.ErrMany {
					t.Fatalf("Set %d, %q: %v", n, name, e)
				}
				continue
			}
			if e != api.OK {
				t.Fatalf("Set %d, %q: %v", n, name, e)
			}
			if !there {
				b.order = append(b.order, name)
			}
			b.data[name] = data
			x = y
		}
		if !tree.Formed(x) {
			t.Fatalf("not formed: %v", x)
		}
		agree(t, x, books)
	}
	for n, d := range several() {
		if x[n].Name != d.Name || !slices.Equal(x[n].Unit, d.Unit) || x[n].Parent != d.Parent || !slices.Equal(x[n].Cells, d.Cells) {
			t.Errorf("device %d: %v", n, x[n])
		}
	}
	if full == 0 {
		t.Error("no device was ever full")
	}
}

// P8.2: going by Next tells each property once, from none to as many as may be.
func TestNextTellsEachOnce(t *testing.T) {
	for n := range api.MaxProps + 1 {
		x := several()
		x[4].Props = propsOf(n)
		var want []string
		for _, p := range x[4].Props {
			want = append(want, p.Name)
		}
		if l := names(t, x, 4); !slices.Equal(l, want) {
			t.Errorf("%v; want %v", l, want)
		}
	}
}

// roomy: several again, all lists of which have marked spare room behind them.
func roomy() []api.Node {
	x := several()
	for n := range x {
		d := &x[n]
		d.Unit = append(d.Unit, 101, 102)[:len(d.Unit)]
		d.Cells = append(d.Cells, 103, 104)[:len(d.Cells)]
		for i := range d.Props {
			p := &d.Props[i]
			p.Data = append(p.Data, 105, 106)[:len(p.Data)]
		}
		d.Props = append(d.Props, property("mark", 107), property("mark", 108))[:len(d.Props)]
	}
	return append(x, node(77, "mark", 109), node(78, "mark", 110))[:len(x)]
}

// whole: the list with all spare room of it and of what it holds.
func whole(x []api.Node) []api.Node {
	var all []api.Node
	for _, d := range x[:cap(x)] {
		d.Unit = slices.Clone(d.Unit[:cap(d.Unit)])
		d.Cells = slices.Clone(d.Cells[:cap(d.Cells)])
		var props []api.Prop
		for _, p := range d.Props[:cap(d.Props)] {
			props = append(props, api.Prop{Name: p.Name, Data: bytes.Clone(p.Data[:cap(p.Data)])})
		}
		d.Props = props
		all = append(all, d)
	}
	return all
}

// scribble: over all that the list holds, its spare room too.
func scribble(x []api.Node) {
	x = x[:cap(x)]
	for n := range x {
		d := &x[n]
		for i := range d.Unit[:cap(d.Unit)] {
			d.Unit[:cap(d.Unit)][i] = 201
		}
		for i := range d.Cells[:cap(d.Cells)] {
			d.Cells[:cap(d.Cells)][i] = 202
		}
		props := d.Props[:cap(d.Props)]
		for i := range props {
			data := props[i].Data[:cap(props[i].Data)]
			for k := range data {
				data[k] = 203
			}
			props[i].Name = "scribbled"
		}
		d.Name, d.Parent = "scribbled", 204
	}
}

// A change makes a tree of a tree.
type change struct {
	name string
	do   func(x []api.Node) []api.Node
}

// changes: calls that answer a tree, of several.
func changes(unit []uint32, data []byte) []change {
	return []change{
		{"Copy", tree.Copy},
		{"Add", func(x []api.Node) []api.Node { y, _, _ := tree.Add(x, 0, "new", unit); return y }},
		{"Add a child", func(x []api.Node) []api.Node { y, _, _ := tree.Add(x, 6, "pci", unit); return y }},
		{"Set anew", func(x []api.Node) []api.Node { y, _ := tree.Set(x, 1, "a", data); return y }},
		{"Set one more", func(x []api.Node) []api.Node { y, _ := tree.Set(x, 1, "new", data); return y }},
		{"Set the first", func(x []api.Node) []api.Node { y, _ := tree.Set(x, 4, "new", data); return y }},
		{"Drop", func(x []api.Node) []api.Node { y, _ := tree.Drop(x, 1, "reg"); return y }},
		{"Drop the last", func(x []api.Node) []api.Node { y, _ := tree.Drop(x, 1, "name"); return y }},
		{"Drop the only", func(x []api.Node) []api.Node { y, _ := tree.Drop(x, 0, "model"); return y }},
	}
}

// P8.1, P1: a tree that is answered shares nothing with what was handed in, nor with another answer, and what was handed in stays.
func TestTreesAreNewMemory(t *testing.T) {
	unit := []uint32{1, 2, 111}[:2]
	data := []byte{3, 4, 112}[:2]
	for _, c := range changes(unit, data) {
		x := roomy()
		before := whole(x)
		y, z := c.do(x), c.do(x)
		want := tree.Copy(y)
		if len(y) == 0 || !tree.Formed(y) || !alike(y, z) {
			t.Fatalf("%s: %v, %v", c.name, y, z)
		}
		scribble(z)
		if !alike(y, want) {
			t.Errorf("%s: two answers share memory", c.name)
		}
		if !alike(whole(x), before) || !slices.Equal(unit[:3], []uint32{1, 2, 111}) || !bytes.Equal(data[:3], []byte{3, 4, 112}) {
			t.Errorf("%s: what was handed in is changed", c.name)
		}
		scribble(x)
		if !alike(y, want) {
			t.Errorf("%s: an answer shares memory with the tree", c.name)
		}
	}
	for _, c := range changes(unit, data) {
		unit[0], unit[1], data[0], data[1] = 1, 2, 3, 4
		y := c.do(several())
		want := tree.Copy(y)
		unit[0], unit[1], data[0], data[1] = 5, 6, 7, 8
		if !alike(y, want) {
			t.Errorf("%s: an answer shares memory with an argument", c.name)
		}
	}
}

// P1: no list of an answer reaches into another one of it.
func TestListsApart(t *testing.T) {
	for _, c := range changes([]uint32{1}, []byte{2}) {
		y := c.do(roomy())
		want := tree.Copy(y)
		for n := range y {
			d := &y[n]
			_ = append(d.Unit, 301, 302, 303)
			_ = append(d.Cells, 304, 305, 306)
			for _, p := range d.Props {
				_ = append(p.Data, 1, 2, 3)
			}
			_ = append(d.Props, property("over"), property("over"))
		}
		if !alike(y, want) {
			t.Errorf("%s: lists of one answer share memory", c.name)
		}
	}
}

// P8.1, P1: the bytes and the numbers that are answered are new memory, and asking changes nothing.
func TestAskingLeavesAll(t *testing.T) {
	x := roomy()
	before := whole(x)
	b, _ := tree.Get(x, 1, "reg")
	b[0] = 99
	for i := range b[:cap(b)] {
		b[:cap(b)][i] = 98
	}
	l := tree.Children(x, 0)
	l[0] = 97
	if again := tree.Children(x, 0); !slices.Equal(again, []int{1, 2}) {
		t.Error(again)
	}
	step := api.Step{Name: "pci", Unit: []uint32{31, 0, 5}[:2], Args: "z"}
	steps := []api.Step{step, {Name: "disk"}, {Name: "mark"}}
	if n, e := tree.Find(x, steps[:2]); n != 4 || e != api.OK {
		t.Error(n, e)
	}
	if steps[0].Args != "z" || !slices.Equal(steps[0].Unit[:3], []uint32{31, 0, 5}) || steps[1].Name != "disk" || steps[2].Name != "mark" {
		t.Error(steps)
	}
	tree.Formed(x)
	for n := -1; n <= len(x); n++ {
		tree.Path(x, n)
		tree.Next(x, n, "")
		tree.Next(x, n, "reg")
	}
	if !alike(whole(x), before) {
		t.Error("asking changed the tree")
	}
}

// P8.1: a call that is refused has changed nothing.
func TestRefusedLeavesAll(t *testing.T) {
	for what, x := range badTrees() {
		before := whole(x)
		for _, c := range calls("reg") {
			c.do(x, 1)
		}
		tree.Find(x, []api.Step{{Name: "pci"}})
		if !alike(whole(x), before) {
			t.Errorf("%s: changed", what)
		}
	}
	x := roomy()
	before := whole(x)
	for _, name := range []string{"reg", "", "A"} {
		for _, c := range calls(name) {
			for _, n := range []int{0, 1, 6, 7, -1} {
				c.do(x, n)
			}
		}
	}
	tree.Add(x, 0, "pci", []uint32{31})
	if !alike(whole(x), before) {
		t.Error("changed")
	}
}
