package inst_test

import (
	"math"
	"slices"
	"strings"
	"testing"

	"tinder/api"
)

// notFormed: the desk with instances, not formed for one cause each.
func notFormed(t testing.TB) map[string]api.Machine {
	all := map[string]api.Machine{"none": {}}
	for name, change := range map[string]func(m *api.Machine){
		"stack":         func(m *api.Machine) { m.Stack = many(api.MaxStack + 1) },
		"memory":        func(m *api.Machine) { m.Mem = make([]byte, api.MaxMem+1) },
		"words":         func(m *api.Machine) { m.Words = m.Words[1:] },
		"codes":         func(m *api.Machine) { m.Codes = []int{len(m.Words)} },
		"base":          func(m *api.Machine) { m.Base = 37 },
		"tree":          func(m *api.Machine) { m.Tree[tty].Name = "" },
		"node":          func(m *api.Machine) { m.Node = len(m.Tree) },
		"self":          func(m *api.Machine) { m.Self = len(m.Insts) },
		"self free":     func(m *api.Machine) { m.Self = noInst - 1 },
		"out":           func(m *api.Machine) { m.Out = strings.Repeat("x", api.MaxOut+1) },
		"instances":     func(m *api.Machine) { m.Insts = append(m.Insts, slices.Repeat([]api.Inst{free()}, api.MaxInsts)...) },
		"cells":         func(m *api.Machine) { m.Insts[1].Cells = nil },
		"arguments":     func(m *api.Machine) { m.Insts[1].Args = "/" },
		"on itself":     func(m *api.Machine) { m.Insts[5].Parent = 5 },
		"in a circle":   func(m *api.Machine) { m.Insts[1].Parent = 3 },
		"on a free one": func(m *api.Machine) { m.Insts[5].Parent = noInst - 1 },
		"on nobody":     func(m *api.Machine) { m.Insts[5].Parent = len(m.Insts) },
		"no device":     func(m *api.Machine) { m.Insts[5].Node = len(m.Tree) },
		"free with more": func(m *api.Machine) {
			m.Insts[noInst-1].Args = "x"
		},
	} {
		m := onDesk(t)
		change(&m)
		all[name] = m
	}
	return all
}

// P17.1: a machine that isn't formed, ahead of all else; and that nothing is told of it.
func TestNotFormed(t *testing.T) {
	for name, m := range notFormed(t) {
		for _, fuel := range []int{plenty, -1} {
			for _, path := range []string{"/tty", "/", "x", "/zz"} {
				if y, ih, left, e := open(t, m, path, fuel); e != api.ErrArg {
					t.Errorf("%s: Open %s: %v, %d, %d, %v", name, path, y, ih, left, e)
				}
			}
			for _, ih := range []uint32{0, aTty, noInst, 1<<32 - 1} {
				callErrs(t, m, ih, "close", nil, fuel, api.ErrArg)
				callErrs(t, m, ih, "zz", many(65), fuel, api.ErrArg)
				shutErrs(t, m, ih, fuel, api.ErrArg)
			}
		}
		for ih := range uint32(20) {
			if l := chain(t, m, ih); len(l) != 0 {
				t.Errorf("%s: Chain %d: %v", name, ih, l)
			}
		}
	}
}

// P17.1: fuel from 0 to MaxFuel, ahead of all else but the machine.
func TestFuelIsAnArgument(t *testing.T) {
	m := onDesk(t)
	for _, fuel := range []int{math.MinInt, -1, api.MaxFuel + 1, math.MaxInt} {
		for _, path := range []string{"/tty", "/", "x", "/zz", strings.Repeat("/a", 200)} {
			openErrs(t, m, path, fuel, api.ErrArg)
		}
		for _, ih := range []uint32{0, aTty, aBus, noInst} {
			callErrs(t, m, ih, "close", nil, fuel, api.ErrArg)
			callErrs(t, m, ih, "zz", many(65), fuel, api.ErrArg)
			shutErrs(t, m, ih, fuel, api.ErrArg)
		}
	}
	for _, fuel := range []int{0, 1, api.MaxFuel} {
		if y, ih, left, e := open(t, m, "/tty", fuel); e != api.OK || ih != noInst || left != fuel || y.Insts[2].Node != tty {
			t.Errorf("Open with %d: %d, %d, %v", fuel, ih, left, e)
		}
		if _, left, e := shut(t, m, aBare, fuel); e != api.OK || left != fuel {
			t.Errorf("Close with %d: %d, %v", fuel, left, e)
		}
	}
	if _, _, left, e := call(t, m, aBus, "w@", nil, api.MaxFuel); e != api.OK || left != api.MaxFuel-3 {
		t.Errorf("Call: %d, %v", left, e)
	}
}

// P17.1: just enough steps, over all methods of a call together, and each number of steps too few.
func TestFuelOverAllMethods(t *testing.T) {
	m := onDesk(t)
	m.Insts[4] = free()
	for fuel := range closeDiskSteps + closeBusSteps {
		shutErrs(t, m, aPart, fuel, api.ErrFuel)
	}
	if _, left, e := shut(t, m, aPart, closeDiskSteps+closeBusSteps); left != 0 || e != api.OK {
		t.Errorf("Close: %d, %v", left, e)
	}
	for fuel := range 2 * openSteps {
		openErrs(t, m, "/bus/disk/part", fuel, api.ErrFuel)
	}
	if _, _, left, e := open(t, m, "/bus/disk/part", 2*openSteps); left != 0 || e != api.OK {
		t.Errorf("Open: %d, %v", left, e)
	}
	for fuel := range 3 {
		callErrs(t, m, aBus, "w@", nil, fuel, api.ErrFuel)
	}
	if _, _, left, e := call(t, m, aBus, "w@", nil, 3); left != 0 || e != api.OK {
		t.Errorf("Call: %d, %v", left, e)
	}
}

// P17.1: paths that are none, and paths that lead nowhere.
func TestOpenPaths(t *testing.T) {
	m := desk(t)
	for _, path := range []string{"", "a", "tty", "tty/", "//", "/tty/", "//tty", "/TTY", "/tty@", "/tty@x", "/tty@1,", "/t y", "/bus@1f,0,0,0,0", "/bus/", "/bus//disk", " /tty"} {
		openErrs(t, m, path, plenty, api.ErrText)
	}
	for _, path := range []string{"/", "/zz", "/disk", "/tty/zz", "/bus@1f", "/bus@1f,1", "/bus@1f,0,0", "/bus/disk@0", "/bus/disk@1/part", "/bus/tty", "/bus/disk/part/zz", "/bus/disk/disk"} {
		openErrs(t, m, path, plenty, api.ErrNode)
	}
	// A path of just so many bytes is taken, and one of one more isn't, whatever it is.
	long := strings.Repeat("x", api.MaxPath-len("/tty:"))
	opens(t, m, "/tty:"+long, 1, 0, func(m *api.Machine) { m.Insts = []api.Inst{argued(of(tty, -1), long)} })
	for _, path := range []string{"/tty:" + long + "x", strings.Repeat("x", api.MaxPath+1), strings.Repeat("/", api.MaxPath+1), "/zz:" + long + "xx"} {
		openErrs(t, m, path, plenty, api.ErrLong)
	}
}

// P17.1: where the path leads is asked ahead of all that is done.
func TestOpenAsksThePathFirst(t *testing.T) {
	m := made(t, `0 " a" new-device : open 0 " later" new-device 5 throw ; 0 " b" new-device : open 0 ;`)
	m.Node = 1
	for _, path := range []string{"/a/zz", "/a/b/zz", "/a/later"} {
		openErrs(t, m, path, plenty, api.ErrNode)
		openErrs(t, m, path, 0, api.ErrNode)
	}
	full := having(m, slices.Repeat([]api.Inst{of(1, -1)}, api.MaxInsts)...)
	openErrs(t, full, "/a/zz", plenty, api.ErrNode)
	openErrs(t, full, "/", plenty, api.ErrNode)
	openErrs(t, full, "/a/", plenty, api.ErrText)
	openErrs(t, m, "/zz/", plenty, api.ErrText)
}

// P17.1: a root that has methods is none of the devices on the way.
func TestTheRootIsNotOpened(t *testing.T) {
	m := made(t, `0 " a" new-device finish-device`)
	m.Node = 0
	m = more(t, m, `: open 5 throw ; : close 6 throw ; 3 instance value r`)
	opens(t, m, "/a", 1, 0, func(m *api.Machine) { m.Insts = []api.Inst{of(1, -1)} })
	openErrs(t, m, "/", plenty, api.ErrNode)
	// An instance of the root is one like all others, where there is one.
	m = having(m, of(0, -1, 4), of(1, 0))
	shutErrs(t, m, 2, plenty, api.ErrThrow)
	callErrs(t, m, 1, "open", nil, plenty, api.ErrThrow)
	if _, l, _, e := call(t, m, 1, "r", nil, plenty); e != api.OK || !slices.Equal(l, cells(4)) {
		t.Error(l, e)
	}
	if l := chain(t, m, 2); !slices.Equal(l, cells(2, 1)) {
		t.Error(l)
	}
}

// P17.1: so many instances as there may be, and one more.
func TestOpenTooMany(t *testing.T) {
	m := desk(t)
	for had := range api.MaxInsts + 1 {
		x := having(m, slices.Repeat([]api.Inst{of(tty, -1)}, had)...)
		for _, c := range []struct {
			path  string
			needs int
		}{{"/tty", 1}, {"/bus", 1}, {"/bus/disk", 2}, {"/bus/disk/part", 3}} {
			y, ih, _, e := open(t, x, c.path, plenty)
			if had+c.needs > api.MaxInsts {
				if e != api.ErrMany {
					t.Errorf("%s on %d: %v", c.path, had, e)
				}
				continue
			}
			if e != api.OK || ih != uint32(had+c.needs) || len(y.Insts) != had+c.needs {
				t.Errorf("%s on %d: %d, %v", c.path, had, ih, e)
			}
		}
	}
	// Where all places are taken up, one that is free again counts.
	for at := range api.MaxInsts {
		x := having(m, slices.Repeat([]api.Inst{of(tty, -1)}, api.MaxInsts)...)
		x.Insts[at] = free()
		opens(t, x, "/tty:"+"y", uint32(at+1), 0, func(m *api.Machine) { m.Insts[at] = argued(of(tty, -1), "y") })
		openErrs(t, x, "/bus/disk", plenty, api.ErrMany)
	}
	all := having(m, slices.Repeat([]api.Inst{free()}, api.MaxInsts)...)
	opens(t, all, "/tty", 1, 0, func(m *api.Machine) { m.Insts[0] = of(tty, -1) })
}

// P17.1: the errors of devices come in the order of the way, and for each one ErrMany, the run's, ErrUnder, ErrSelf.
func TestOpenErrorsInOrder(t *testing.T) {
	text := func(first, second string) string {
		return `0 " a" new-device : open ` + first + ` ; 0 " b" new-device : open ` + second + ` ;`
	}
	for body, want := range map[string]api.Errno{
		"0": api.ErrSelf, "": api.ErrUnder, "drop": api.ErrUnder, "5 throw": api.ErrThrow, "begin again": api.ErrFuel, "1 >r": api.ErrRet, "1 0 /": api.ErrZero, "9999 execute": api.ErrWord, "1 @": api.ErrAlign, "100 1 my-self $call-method": api.ErrAddr,
	} {
		m := made(t, text(body, "5 throw"))
		openErrs(t, m, "/a", plenty, want)
		openErrs(t, m, "/a/b", plenty, want)
		m = made(t, text("1", body))
		openErrs(t, m, "/a/b", plenty, want)
		// Too many for the second: the first one's error comes ahead of it, the second one's doesn't.
		m = having(made(t, text(body, "1")), slices.Repeat([]api.Inst{of(1, -1)}, api.MaxInsts-1)...)
		openErrs(t, m, "/a/b", plenty, want)
		m = having(made(t, text("1", body)), slices.Repeat([]api.Inst{of(1, -1)}, api.MaxInsts-1)...)
		openErrs(t, m, "/a/b", plenty, api.ErrMany)
		m = having(made(t, text(body, "1")), slices.Repeat([]api.Inst{of(1, -1)}, api.MaxInsts)...)
		openErrs(t, m, "/a", plenty, api.ErrMany)
	}
	// A stack that holds cells lets a method without a cell of its own take one of these, which may be 0.
	m := made(t, text("", ""))
	openErrs(t, holding(m, 0), "/a", plenty, api.ErrSelf)
	openErrs(t, holding(m, 1), "/a/b", plenty, api.ErrUnder)
	openErrs(t, holding(m, 0, 1), "/a/b", plenty, api.ErrSelf)
	openErrs(t, holding(m, 1, 0), "/a/b", plenty, api.ErrSelf)
	opens(t, holding(m, 1, 1), "/a/b", 2, 2, func(m *api.Machine) {
		m.Stack, m.Insts = nil, []api.Inst{of(1, -1), of(2, 0)}
	})
	openErrs(t, holding(made(t, text("1", "1")), many(api.MaxStack)...), "/a", plenty, api.ErrOver)
}

// P17.1: a handle of none that is alive, ahead of a method that isn't there and of arguments.
func TestNoInstance(t *testing.T) {
	m := onDesk(t)
	for _, ih := range []uint32{0, noInst, 8, 9, 16, 17, 1000, 1<<31 - 1, 1 << 31, 1<<31 + 1, 1<<32 - 2, 1<<32 - 1} {
		for _, name := range []string{"w@", "close", "zz", ""} {
			callErrs(t, m, ih, name, nil, plenty, api.ErrSelf)
			callErrs(t, m, ih, name, many(100), 0, api.ErrSelf)
		}
		shutErrs(t, m, ih, plenty, api.ErrSelf)
		shutErrs(t, m, ih, 0, api.ErrSelf)
		callErrs(t, desk(t), ih, "w@", nil, plenty, api.ErrSelf)
		shutErrs(t, desk(t), ih, plenty, api.ErrSelf)
		if l := chain(t, desk(t), ih); len(l) != 0 {
			t.Errorf("%d: %v", ih, l)
		}
	}
}

// P17.1: a method that the device hasn't: nobody's words, other devices' and the first ones are none of its own.
func TestNoMethod(t *testing.T) {
	m := onDesk(t)
	for _, name := range []string{"", "zz", "me", "dup", "both", "c@", "W@", "w@ ", "clos", strings.Repeat("w", 300), "\xff"} {
		callErrs(t, m, aBus, name, nil, plenty, api.ErrMethod)
		callErrs(t, m, aBus, name, many(100), 0, api.ErrMethod)
		callErrs(t, holding(m, many(api.MaxStack)...), aBus, name, cells(1), plenty, api.ErrMethod)
	}
	callErrs(t, m, aBare, "open", nil, plenty, api.ErrMethod)
	callErrs(t, m, aPart, "close", nil, plenty, api.ErrMethod)
	callErrs(t, m, aTty, "open", nil, plenty, api.ErrMethod)
}

// P17.1: arguments up to a full stack, and more of them, ahead of all that the method does.
func TestCallArguments(t *testing.T) {
	m := having(made(t, `0 " a" new-device : x ; : y r> ; : z drop ;`), of(1, -1))
	for had := range api.MaxStack + 1 {
		x := holding(m, many(had)...)
		for _, n := range []int{0, 1, api.MaxStack - had, api.MaxStack - had + 1, api.MaxStack, api.MaxStack + 1, 1000} {
			args := slices.Repeat(cells(8, 9), n)[:n]
			if had+n > api.MaxStack {
				callErrs(t, x, 1, "x", args, plenty, api.ErrOver)
				callErrs(t, x, 1, "y", args, 0, api.ErrOver)
				continue
			}
			calls(t, x, 1, "x", args, args, 1, same)
			callErrs(t, x, 1, "y", args, plenty, api.ErrRet)
			callErrs(t, x, 1, "y", args, 0, api.ErrFuel)
			if n > 0 {
				calls(t, x, 1, "z", args, args[:n-1], 3, same)
			}
		}
	}
}

// P17.1: a stack that is less high than it was ahead of the arguments, by how many cells ever.
func TestCallTakesTooMuch(t *testing.T) {
	m := made(t, `0 " a" new-device : x 0 ?do drop loop ;`)
	for had := range 6 {
		for n := range 6 {
			x := having(holding(m, many(had)...), of(1, -1))
			for drops := range had + n + 2 {
				// The number of cells that are dropped is an argument too, which the method itself takes.
				args := append(slices.Repeat(cells(7), n), uint32(drops))
				y, l, _, e := call(t, x, 1, "x", args, plenty)
				switch {
				case drops > n:
					if e != api.ErrUnder {
						t.Errorf("%d of %d on %d: %v", drops, n, had, e)
					}
				case e != api.OK || !slices.Equal(y.Stack, many(had)) || !slices.Equal(l, args[:n-drops]):
					t.Errorf("%d of %d on %d: %v, %v, %v", drops, n, had, y.Stack, l, e)
				}
			}
		}
	}
}

// P17.1: errors of methods go out of the calls, and nothing is changed then.
func TestErrorsOfMethods(t *testing.T) {
	for body, want := range map[string]api.Errno{
		"5 throw": api.ErrThrow, "begin again": api.ErrFuel, "1 >r": api.ErrRet, "r> 1": api.ErrRet, "1 0 /": api.ErrZero, "9999 execute": api.ErrWord, "1 @": api.ErrAlign, "finish-device": api.ErrNode, "-1 alloc-mem": api.ErrRoom,
		"depth if drop then drop": api.ErrUnder, "begin 1 0 until": api.ErrOver,
	} {
		m := made(t, `0 " a" new-device : x `+body+` ; : close `+body+` ; 0 " b" new-device : close 7 . ; finish-device finish-device finish-device`)
		m = having(m, of(1, -1), of(2, 0), of(1, -1))
		callErrs(t, m, 1, "x", nil, plenty, want)
		shutErrs(t, m, 3, plenty, want)
		// Also where another one was closed ahead.
		shutErrs(t, m, 2, plenty, want)
	}
}

// P17.1: one that is stood on isn't closed, which comes ahead of all that is run.
func TestCloseStoodOn(t *testing.T) {
	m := onDesk(t)
	for _, fuel := range []int{0, plenty} {
		shutErrs(t, m, aBus, fuel, api.ErrExist)
		shutErrs(t, m, aDisk, fuel, api.ErrExist)
	}
	x := having(made(t, `0 " a" new-device : close 5 throw ;`), of(1, -1), of(1, 0))
	shutErrs(t, x, 1, plenty, api.ErrExist)
	shutErrs(t, x, 2, plenty, api.ErrThrow)
	// One that stands on the first place of all is none that stands on nothing.
	y := having(made(t, `0 " a" new-device`), of(1, -1), of(1, -1))
	shuts(t, y, 1, 0, func(m *api.Machine) { m.Insts[0] = free() })
	shuts(t, y, 2, 0, func(m *api.Machine) { m.Insts[1] = free() })
}

// P17.1: chains of all instances that there may be, standing on one another in either order.
func TestLongestChain(t *testing.T) {
	m := made(t, `0 " a" new-device : close my-self . ;`)
	var up, down []api.Inst
	var handles []uint32
	for i := range api.MaxInsts {
		up = append(up, of(1, i-1))
		down = append(down, of(1, (i+2)%(api.MaxInsts+1)-1))
		handles = append(handles, uint32(i+1))
	}
	if l := chain(t, having(m, down...), 1); !slices.Equal(l, handles) {
		t.Error(l)
	}
	gone := slices.Repeat([]api.Inst{free()}, api.MaxInsts)
	shuts(t, having(m, down...), 1, 5*api.MaxInsts, func(m *api.Machine) {
		m.Insts, m.Out = gone, "1 2 3 4 5 6 7 8 9 10 11 12 13 14 15 16 "
	})
	shuts(t, having(m, up...), api.MaxInsts, 5*api.MaxInsts, func(m *api.Machine) {
		m.Insts, m.Out = gone, "16 15 14 13 12 11 10 9 8 7 6 5 4 3 2 1 "
	})
	slices.Reverse(handles)
	if l := chain(t, having(m, up...), api.MaxInsts); !slices.Equal(l, handles) {
		t.Error(l)
	}
	for i := 1; i < api.MaxInsts; i++ {
		shutErrs(t, having(m, up...), uint32(i), plenty, api.ErrExist)
	}
}
