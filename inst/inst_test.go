package inst_test

import (
	"slices"
	"strings"
	"testing"

	"tinder/api"
)

// P17.1: an instance of each device on the way, each on the one ahead, with its step's arguments and its device's cells; those that have a method open run it as themselves, in order.
func TestOpen(t *testing.T) {
	m := desk(t)
	for _, name := range []string{"/bus", "/bus@1f,0", "/bus@1F,00"} {
		opens(t, m, name, 1, openSteps, func(m *api.Machine) {
			m.Insts = []api.Inst{of(bus, -1, 7)}
			m.Out = "open 1 0 "
		})
	}
	opens(t, m, "/bus/disk", 2, 2*openSteps, func(m *api.Machine) {
		m.Insts = []api.Inst{of(bus, -1, 7), of(disk, 0, 2, 3)}
		m.Out = "open 1 0 open 2 1 "
	})
	opens(t, m, "/bus:a/disk:b,c:d@e/part:", 3, 2*openSteps, func(m *api.Machine) {
		m.Insts = []api.Inst{argued(of(bus, -1, 7), "a"), argued(of(disk, 0, 2, 3), "b,c:d@e"), of(part, 1)}
		m.Out = "open 1 0 open 2 1 "
	})
	opens(t, m, "/bus:\x00 \xff/disk@1:z", 2, openSteps, func(m *api.Machine) {
		m.Insts = []api.Inst{argued(of(bus, -1, 7), "\x00 \xff"), argued(of(bareDisk, 0, 8), "z")}
		m.Out = "open 1 0 "
	})
	opens(t, m, "/tty", 1, 0, func(m *api.Machine) { m.Insts = []api.Inst{of(tty, -1)} })
}

// P17.1: opened again, a path has instances of its own; what is alive already stays as it is.
func TestOpenAgain(t *testing.T) {
	was := []api.Inst{argued(of(bus, -1, 70), "x"), of(disk, 0, 20, 30)}
	opens(t, having(desk(t), was...), "/bus/disk:y", 4, 2*openSteps, func(m *api.Machine) {
		m.Insts = append(m.Insts, of(bus, -1, 7), argued(of(disk, 2, 2, 3), "y"))
		m.Out = "open 3 0 open 4 3 "
	})
}

// P17.1: new instances take the free places from the first one on, and then those behind all.
func TestOpenTakesFreePlaces(t *testing.T) {
	was := []api.Inst{of(tty, -1), free(), of(tty, 4), free(), of(tty, -1)}
	opens(t, having(desk(t), was...), "/bus/disk:y/part", 6, 2*openSteps, func(m *api.Machine) {
		m.Insts[1], m.Insts[3] = of(bus, -1, 7), argued(of(disk, 1, 2, 3), "y")
		m.Insts = append(m.Insts, of(part, 3))
		m.Out = "open 2 0 open 4 2 "
	})
	opens(t, having(desk(t), was...), "/tty", 2, 0, func(m *api.Machine) { m.Insts[1] = of(tty, -1) })
	opens(t, having(desk(t), free(), free()), "/tty", 1, 0, func(m *api.Machine) { m.Insts[0] = of(tty, -1) })
}

// P17.1: a step leads to the first child of its name, and of its unit address, if it has one.
func TestOpenFindsDevices(t *testing.T) {
	m := made(t, `1 1 " a" new-device 0 " b" new-device finish-device finish-device 0 " a" new-device 0 " c" new-device finish-device finish-device 2 1 " a" new-device 0 " b" new-device finish-device`)
	for name, want := range map[string][]int{"/a/b": {1, 2}, "/a@1/b": {1, 2}, "/a@2/b": {5, 6}, "/a": {1}, "/a@2": {5}} {
		y, _, _, e := open(t, m, name, 0)
		var l []int
		for _, x := range y.Insts {
			l = append(l, x.Node)
		}
		if e != api.OK || !slices.Equal(l, want) {
			t.Errorf("%s: %v, %v; want %v", name, l, e, want)
		}
	}
	for _, name := range []string{"/a/c", "/a@3", "/a@1,0", "/b", "/a/b/b", "/A", "/a@2/c"} {
		want := api.ErrNode
		if name == "/A" {
			want = api.ErrText
		}
		openErrs(t, m, name, 0, want)
	}
}

// P17.1: of what a method open leaves, the top cell is taken; the rest stays, and so does what it does elsewhere.
func TestOpenTakesTheTop(t *testing.T) {
	for body, want := range map[string][]uint32{
		"-1": {5, 6}, "1": {5, 6}, "3": {5, 6}, "": {5}, "drop": {}, "7 8": {5, 6, 7}, "depth": {5, 6}, "0 1": {5, 6, 0}, "-1 swap": {5, 1<<32 - 1}, "2drop 8 9": {8},
	} {
		m := holding(made(t, `0 " a" new-device : open `+body+` ; finish-device`), 5, 6)
		if y, ih, _, e := open(t, m, "/a", plenty); e != api.OK || ih != 1 || !slices.Equal(y.Stack, want) {
			t.Errorf("%q: %v, %v; want %v", body, y.Stack, e, want)
		}
	}
	// Without a method nothing is taken, whatever the stack holds.
	for _, l := range [][]uint32{nil, {0}, {5, 0}, many(api.MaxStack)} {
		opens(t, holding(desk(t), l...), "/tty", 1, 0, func(m *api.Machine) { m.Insts = []api.Inst{of(tty, -1)} })
	}
	// What one device leaves the next one finds.
	m := made(t, `0 " a" new-device : open 4 5 ; 0 " b" new-device : open dup . ; 0 " c" new-device : open depth ; `)
	opens(t, holding(m, 9), "/a/b", 2, 8, func(m *api.Machine) {
		m.Stack, m.Out = cells(9), "4 "
		m.Insts = []api.Inst{of(1, -1), of(2, 0)}
	})
}

// methods: a method x of each kind of word, and what it leaves on a stack of 40.
var methods = map[string][]uint32{
	"5 constant x": {40, 5}, "6 value x": {40, 6}, "7 instance value x": {40, 7}, "variable x": {40, 4}, "3 buffer: x": {40, 4}, "defer x ' dup to x": {40, 40},
	": x ;": {40}, ": x 1+ ;": {41}, "defer y : x 2 + ; ' x to y : x y y ;": {44}, ": x 1 ; : x 2 ;": {40, 2}, ": x 1 ; 9 constant x": {40, 9}, ": x my-self ;": {40, 1}, ": x my-parent ;": {40, 0},
}

// P17.1: a method may be a word of any kind; the newest of the name counts.
func TestMethodsOfEachKind(t *testing.T) {
	for text, want := range methods {
		m := made(t, `: 1+ 1 + ; 0 " a" new-device `+text+` finish-device finish-device : x 77 ;`)
		m = having(m, of(1, -1, m.Tree[1].Cells...))
		if y, l, _, e := call(t, m, 1, "x", cells(40), plenty); e != api.OK || len(y.Stack) != 0 || !slices.Equal(l, want) {
			t.Errorf("%q: %v, %v, %v; want %v", text, y.Stack, l, e, want)
		}
		text = strings.ReplaceAll(text, " x", " open")
		m = holding(made(t, `: 1+ 1 + ; 0 " a" new-device `+text+` finish-device finish-device : open 77 ;`), 40)
		top := want[len(want)-1]
		y, _, _, e := open(t, m, "/a", plenty)
		if top == 0 && e != api.ErrSelf || top != 0 && (e != api.OK || !slices.Equal(y.Stack, want[:len(want)-1])) {
			t.Errorf("%q: %v, %v; want %v without its top", text, y.Stack, e, want)
		}
		text = strings.ReplaceAll(text, " open", " close")
		m = made(t, `: 1+ 1 + ; 0 " a" new-device `+text+` finish-device finish-device : close 77 ;`)
		m = holding(having(m, of(1, -1, m.Tree[1].Cells...)), 40)
		if y, _, e := shut(t, m, 1, plenty); e != api.OK || !slices.Equal(y.Stack, want) {
			t.Errorf("%q: %v, %v; want %v", text, y.Stack, e, want)
		}
	}
}

// onDesk: the desk with some instances: a part on a disk on a bus, a bare disk on the same bus, a terminal alone, and one more bus.
func onDesk(t testing.TB) api.Machine {
	t.Helper()
	return having(desk(t), of(part, 3), of(bus, -1, 70), free(), argued(of(disk, 1, 20, 30), "x"), of(bareDisk, 1, 80), of(tty, -1), of(bus, -1, 71))
}

// The handles of these.
const (
	aPart  = 1
	aBus   = 2
	noInst = 3
	aDisk  = 4
	aBare  = 5
	aTty   = 6
	twoBus = 7
)

// P17.1: a method is run on the stack with the arguments on top; what it leaves above the height ahead of them is answered, the top last.
func TestCall(t *testing.T) {
	m := onDesk(t)
	calls(t, m, aBus, "w@", nil, cells(70), 3, same)
	calls(t, m, twoBus, "w@", nil, cells(71), 3, same)
	calls(t, m, aBus, "w@", cells(4, 5), cells(4, 5, 70), 3, same)
	calls(t, m, aDisk, "both", nil, cells(20, 30), 5, same)
	calls(t, m, aBus, "w!", cells(6), nil, 2, func(m *api.Machine) { m.Insts[1].Cells = cells(6) })
	calls(t, m, aBare, "e!", cells(5, 6), cells(5), 2, func(m *api.Machine) { m.Insts[4].Cells = cells(6) })
	calls(t, m, aDisk, "c!", cells(6), nil, 2, func(m *api.Machine) { m.Insts[3].Cells = cells(6, 30) })
	calls(t, m, aDisk, "open", nil, cells(1), openSteps, func(m *api.Machine) { m.Out = "open 4 2 " })
	calls(t, m, aTty, "close", nil, nil, closeTtySteps, func(m *api.Machine) { m.Out = "close 6 0 " })
	calls(t, m, aDisk, "c", nil, cells(20), 1, same)
}

// P17.1: what lies below the arguments.
func TestCallOnAStack(t *testing.T) {
	for body, want := range map[string][2][]uint32{
		"":                  {{1, 2}, {7, 8}},
		"+":                 {{1, 2}, {15}},
		"2drop":             {{1, 2}, {}},
		"+ -rot":            {{15, 1}, {2}},
		"+ +":               {{1, 17}, {}},
		"depth":             {{1, 2}, {7, 8, 4}},
		"2drop swap":        {{2, 1}, {}},
		"rot drop":          {{1, 7}, {8}},
		"2drop 2drop 5 6 9": {{5, 6}, {9}},
	} {
		m := having(holding(made(t, `0 " a" new-device : x `+body+` ;`), 1, 2), of(1, -1))
		y, l, _, e := call(t, m, 1, "x", cells(7, 8), plenty)
		if e != api.OK || !slices.Equal(y.Stack, want[0]) || !slices.Equal(l, want[1]) {
			t.Errorf("%q: %v, %v, %v; want %v", body, y.Stack, l, e, want)
		}
	}
}

// P17.1: from an instance on each one that nothing else stands on is closed, each method close being run as the instance that is still there.
func TestClose(t *testing.T) {
	m := onDesk(t)
	shuts(t, m, aTty, closeTtySteps, func(m *api.Machine) {
		m.Insts[5] = free()
		m.Out = "close 6 0 "
	})
	shuts(t, m, twoBus, closeBusSteps, func(m *api.Machine) {
		m.Insts[6] = free()
		m.Out = "close 7 0 71 "
	})
	shuts(t, m, aBare, 0, func(m *api.Machine) { m.Insts[4] = free() })
	// The bus stays, since a disk stands on it.
	shuts(t, m, aPart, closeDiskSteps, func(m *api.Machine) {
		m.Insts[0], m.Insts[3] = free(), free()
		m.Out = "close 4 2 20 30 "
	})
	m.Insts[4] = free()
	shuts(t, m, aPart, closeDiskSteps+closeBusSteps, func(m *api.Machine) {
		m.Insts[0], m.Insts[3], m.Insts[1] = free(), free(), free()
		m.Out = "close 4 2 20 30 close 2 0 70 "
	})
}

// P17.1: nothing of the stack is taken, and what a method close leaves stays.
func TestCloseOnAStack(t *testing.T) {
	m := having(holding(made(t, `0 " a" new-device : close 7 ; 0 " b" new-device : close 0 dup ;`), 5, 0), of(1, -1), of(2, 0))
	shuts(t, m, 2, 7, func(m *api.Machine) {
		m.Stack = cells(5, 0, 0, 0, 7)
		m.Insts = []api.Inst{free(), free()}
	})
	m = having(holding(made(t, `0 " a" new-device : close 2drop ;`), 5, 0), of(1, -1))
	shuts(t, m, 1, 3, func(m *api.Machine) {
		m.Stack = nil
		m.Insts = []api.Inst{free()}
	})
}

// P17.1: each place is free behind its own method, and ahead of the parent's.
func TestCloseOneByOne(t *testing.T) {
	// The bus calls the method of the instance 2, whose handle is on top, and catches the error.
	m := made(t, `: ask " hi" 2 $call-method ; 0 " a" new-device : close ['] ask catch . ; 0 " b" new-device : hi ." hi " ; : close ['] ask catch . ;`)
	m = having(m, of(1, -1), of(2, 0))
	y, _, e := shut(t, m, 2, plenty)
	if e != api.OK || y.Out != "hi 0 21 " {
		t.Errorf("%q, %v", y.Out, e)
	}
	// Likewise of opening: an instance is there when its method is run, with its cells; the next one isn't.
	m = made(t, `: ask " hi" 2 $call-method ; 0 " a" new-device : open ['] ask catch . 1 ; 0 " b" new-device 6 instance value v : hi ." hi " v . ; : open ['] ask catch . 2 ;`)
	y, ih, _, e := open(t, m, "/a/b", plenty)
	if e != api.OK || ih != 2 || y.Out != "21 hi 6 0 " {
		t.Errorf("%q, %v", y.Out, e)
	}
}

// P17.1: which instance is at work behind a call: the one that was, if it is alive.
func TestSelf(t *testing.T) {
	m := onDesk(t)
	for self := -1; self < len(m.Insts); self++ {
		if self == noInst-1 {
			continue
		}
		x := as(m, self)
		for _, name := range []string{"/tty", "/bus/disk"} {
			if y, _, _, e := open(t, x, name, plenty); e != api.OK || y.Self != self {
				t.Errorf("Open %s as %d: as %d, %v", name, self, y.Self, e)
			}
		}
		for _, ih := range []uint32{aBus, twoBus} {
			if y, _, _, e := call(t, x, ih, "w@", nil, plenty); e != api.OK || y.Self != self {
				t.Errorf("Call %d as %d: as %d, %v", ih, self, y.Self, e)
			}
		}
		for ih, closed := range map[uint32][]int{aPart: {0, 3}, aBare: {4}, aTty: {5}, twoBus: {6}} {
			want := self
			if slices.Contains(closed, self) {
				want = -1
			}
			if y, _, e := shut(t, x, ih, plenty); e != api.OK || y.Self != want {
				t.Errorf("Close %d as %d: as %d, %v; want %d", ih, self, y.Self, e, want)
			}
		}
	}
}

// P17.1: a method is run as its instance, also while another one is at work, and also where it has the other call its own.
func TestRunAsTheInstance(t *testing.T) {
	m := made(t, `: me my-self . ; 0 " a" new-device 5 instance value v : hi me v . ; : in me " hi" my-parent $call-method me ; 0 " b" new-device 6 instance value v : hi me v . ; : in me " hi" my-parent $call-method me v . ;`)
	m = as(having(m, of(1, -1, 50), of(1, -1, 51), of(2, 1, 60), of(2, 0, 61)), 0)
	for ih, want := range map[uint32]string{3: "3 2 51 3 60 ", 4: "4 1 50 4 61 "} {
		if y, _, _, e := call(t, m, ih, "in", nil, plenty); e != api.OK || y.Out != want || y.Self != 0 {
			t.Errorf("%d: %q as %d, %v; want %q", ih, y.Out, y.Self, e, want)
		}
	}
	callErrs(t, m, 1, "in", nil, plenty, api.ErrSelf)
}

// P17.1: from parent to parent, on a desk with free places.
func TestChain(t *testing.T) {
	m := onDesk(t)
	for ih, want := range [][]uint32{0: nil, aPart: {aPart, aDisk, aBus}, aBus: {aBus}, noInst: nil, aDisk: {aDisk, aBus}, aBare: {aBare, aBus}, aTty: {aTty}, twoBus: {twoBus}, 8: nil, 9: nil, 1000: nil} {
		for self := range 2 {
			if l := chain(t, as(m, self-1), uint32(ih)); !slices.Equal(l, want) {
				t.Errorf("%d: %v; want %v", ih, l, want)
			}
		}
	}
	for _, ih := range []uint32{1<<32 - 1, 1 << 31, 1<<31 - 1, 1<<31 + aPart} {
		if l := chain(t, m, ih); len(l) != 0 {
			t.Errorf("%d: %v", ih, l)
		}
	}
}

// P17.1: the devices at work and the tree are left to the methods.
func TestMethodsAddDevices(t *testing.T) {
	m := made(t, `0 " a" new-device : open 9 1 " kid" new-device 1 ; : more 0 " other" new-device ; : close finish-device finish-device ; 0 " kid" new-device 4 instance value v`)
	m.Node = 1
	y, ih, _, e := open(t, m, "/a/kid", plenty)
	if e != api.OK || ih != 2 || len(y.Tree) != 4 || y.Node != 3 || y.Insts[1].Node != 2 || !slices.Equal(y.Insts[1].Cells, cells(4)) {
		t.Fatal(y.Tree, y.Insts, y.Node, e)
	}
	y, _, _, e = call(t, y, 1, "more", nil, plenty)
	if e != api.OK || len(y.Tree) != 5 || y.Tree[4].Parent != 3 || y.Node != 4 {
		t.Fatal(y.Tree, y.Node, e)
	}
	y, _, e = shut(t, y, 2, plenty)
	if e != api.OK || len(y.Tree) != 5 || y.Node != 1 || len(chain(t, y, 1)) != 0 {
		t.Fatal(y.Tree, y.Node, e)
	}
}
