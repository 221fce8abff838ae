package probe_test

import (
	"bytes"
	"math"
	"strings"
	"testing"

	"tinder/api"
	"tinder/dict"
	"tinder/path"
	"tinder/tree"
)

// added: the machine gets a word of a text's, which has the first code from 800 on that no word has.
func added(m *api.Machine, w api.Word) {
	m.Words = append(m.Words, w)
	for k := 0; ; k++ {
		if k == len(m.Codes) {
			m.Codes = append(m.Codes, -1)
		}
		if m.Codes[k] == -1 {
			m.Codes[k] = len(m.Words) - 1
			return
		}
	}
}

// P23.1: what comes of a slot: its device, and whatever its program makes.
func TestTry(t *testing.T) {
	for _, m := range []api.Machine{dict.New(), desk()} {
		at := len(m.Tree)
		for _, i := range []int{0, 3, 7} {
			taken(t, m, i, "\\ nothing", func(m *api.Machine, slot *api.Node) {})
			taken(t, m, i, "7 encode-int \" reg\" property", func(m *api.Machine, slot *api.Node) {
				for len(m.Mem)%4 != 0 {
					m.Mem = append(m.Mem, 0)
				}
				m.Mem = append(m.Mem, "\x00\x00\x00\x07reg"...)
				slot.Props = []api.Prop{{Name: "reg", Data: []byte{0, 0, 0, 7}}}
			})
			taken(t, m, i, `5 0 0 1 bl bljoin 36 base! drop`, func(m *api.Machine, slot *api.Node) { m.Base = 36 })
			taken(t, m, i, ": open 6 ;", func(m *api.Machine, slot *api.Node) {
				added(m, api.Word{Name: "open", Node: at, Kind: api.WColon, Code: []api.Op{{Kind: api.OLit, N: 6}}})
			})
			taken(t, m, i, "9 instance value c  10 instance value d", func(m *api.Machine, slot *api.Node) {
				slot.Cells = cells(9, 10)
				added(m, api.Word{Name: "c", Node: at, Kind: api.WInst, N: 0})
				added(m, api.Word{Name: "d", Node: at, Kind: api.WInst, N: 1})
			})
			taken(t, m, i, "finish-device 5 constant x finish-device 6 constant y", func(m *api.Machine, slot *api.Node) {
				added(m, api.Word{Name: "x", Node: 0, Kind: api.WConst, N: 5})
				added(m, api.Word{Name: "y", Node: -1, Kind: api.WConst, N: 6})
			})
			taken(t, m, i, "5 value own 6 to own", func(m *api.Machine, slot *api.Node) {
				added(m, api.Word{Name: "own", Node: at, Kind: api.WValue, N: 6})
			})
		}
	}
}

// P23.1: devices within the slot's, beside it, and on the root.
func TestDevicesOfASlot(t *testing.T) {
	y, e := try(t, desk(), 4, rom(t, `0 " a" new-device 31 0 2 " b" new-device finish-device 1 1 " b" new-device finish-device finish-device finish-device 0 " c" new-device finish-device finish-device 1 1 " slot" new-device`), plenty)
	if e != api.OK || y.Node != bus || len(y.Tree) != onDesk+6 {
		t.Fatal(e, y.Tree)
	}
	for n, want := range map[int]string{0: "/", bus: "/slot@1,0", disk: "/slot@1,0/slot@2", 3: "/slot@4", 4: "/slot@4/a", 5: "/slot@4/a/b@1f,0", 6: "/slot@4/a/b@1", 7: "/c", 8: "/slot@1"} {
		if s, e := tree.Path(y.Tree, n); s != want || e != api.OK {
			t.Errorf("%d: %q, %v; want %q", n, s, e, want)
		}
	}
}

// P23.1: how the program finds the machine: its device at work, no cells on the stack, no instance; all else as it is.
func TestWhatAProgramFinds(t *testing.T) {
	for text, want := range map[string]string{
		"depth .":                    "old 0 ",
		"my-self .":                  "old 0 ",
		"here .":                     "old 6 ",
		"0 @ .":                      "old 5 ",
		"35 .":                       "old 35 ",
		`" model" get-my-property .`: "old -1 ",
		`finish-device " model" get-my-property drop decode-string type 2drop`: "old m",
		`5 " set" 2 $call-method my-self .`:                                    "old 0 ",
	} {
		y, e := try(t, desk(), 5, rom(t, text), plenty)
		if e != api.OK || y.Out != want {
			t.Errorf("%s: %v, %q; want %q", text, e, y.Out, want)
		}
	}
}

// P23.1: the stack, the device and the instance at work are as they were ahead, whatever they were, and whatever the program leaves.
func TestAsTheyWere(t *testing.T) {
	for _, stack := range [][]uint32{nil, cells(0), cells(1, 2, 3), many(api.MaxStack)} {
		for node := -1; node < onDesk; node++ {
			for _, self := range []int{-1, onDisk} {
				m := with(func(m *api.Machine) { m.Stack, m.Node, m.Self = stack, node, self })
				for _, text := range []string{"", "1 2 3", "finish-device", "finish-device finish-device", `0 " a" new-device 9`, strings.Repeat("7 ", api.MaxStack)} {
					y, e := try(t, m, 6, rom(t, text), plenty)
					if e != api.OK || !bytes.Equal(bytesOf(y.Stack), bytesOf(stack)) || y.Node != node || y.Self != self {
						t.Errorf("%q on %v, %d, %d: %v, %v, %d, %d", text, stack, node, self, e, y.Stack, y.Node, y.Self)
					}
				}
				for _, text := range []string{"drop", "finish-device finish-device finish-device", "1 +", "my-parent", strings.Repeat("7 ", api.MaxStack+1)} {
					if _, e := try(t, m, 6, rom(t, text), plenty); e == api.OK {
						t.Errorf("%q on %v, %d, %d isn't refused", text, stack, node, self)
					}
				}
			}
		}
	}
}

func bytesOf(l []uint32) []byte {
	b := []byte{}
	for _, n := range l {
		b = append(b, byte(n))
	}
	return b
}

// P23.1: an instance may be called by a program, and keeps what it is told.
func TestAnInstanceIsCalled(t *testing.T) {
	taken(t, desk(), 0, `77 " set" 2 $call-method`, func(m *api.Machine, slot *api.Node) {
		m.Mem = append(m.Mem, "\x00\x00set"...)
		m.Insts[onDisk].Cells[1] = 77
	})
}

// P23.1: which slots there are.
func TestSlots(t *testing.T) {
	b := rom(t, "5")
	for _, i := range []int{math.MinInt, -256, -8, -1, 8, 9, 255, 256, 1 << 32, math.MaxInt} {
		for _, m := range []api.Machine{dict.New(), desk(), crowded(desk(), api.MaxNodes)} {
			fails(t, m, i, b, plenty, api.ErrArg)
			fails(t, m, i, nil, plenty, api.ErrArg)
		}
	}
	for i := range 8 {
		y, e := try(t, desk(), i, b, 0)
		if e != api.OK || len(y.Tree) != onDesk+1 {
			t.Fatal(i, e)
		}
		steps, _ := path.Parse("/slot@" + string(rune('0'+i)))
		if n, e := tree.Find(y.Tree, steps); n != onDesk || e != api.OK || len(steps) != 1 {
			t.Errorf("slot %d: %d, %v", i, n, e)
		}
	}
}

// P23.1: fuel from 0 to MaxFuel; just enough of it, and too little.
func TestFuel(t *testing.T) {
	b := rom(t, ": x 5 drop ; x x")
	for _, m := range []api.Machine{desk(), occupied(desk(), 2)} {
		for _, fuel := range []int{math.MinInt, -1, api.MaxFuel + 1, math.MaxInt} {
			for _, b := range [][]byte{b, nil, {0}} {
				fails(t, m, 2, b, fuel, api.ErrArg)
				refused(t, m, [][]byte{b}, fuel)
			}
			refused(t, m, nil, fuel)
		}
	}
	for fuel := range 8 {
		fails(t, desk(), 2, b, fuel, api.ErrFuel)
	}
	for _, fuel := range []int{8, 9, api.MaxFuel} {
		fails(t, desk(), 2, b, fuel, api.OK)
	}
	loops := rom(t, ": x begin again ; x")
	fails(t, desk(), 2, loops, api.MaxFuel, api.ErrFuel)
	// Each slot has so many steps for itself.
	for fuel := range 8 {
		errorsOf(t, desk(), [][]byte{b, loops, b}, fuel, api.ErrFuel, api.ErrFuel, api.ErrFuel)
	}
	errorsOf(t, desk(), [][]byte{b, loops, b, b, b, b, b, b}, 8, api.OK, api.ErrFuel, api.OK, api.OK, api.OK, api.OK, api.OK, api.OK)
	errorsOf(t, desk(), [][]byte{nil, rom(t, "5"), nil}, 0, api.ErrNone, api.OK, api.ErrNone)
}

// P23.1: a machine that isn't formed, ahead of all else.
func TestNotFormed(t *testing.T) {
	for name, m := range unlike() {
		if dict.Formed(m) {
			t.Fatal(name)
		}
		for _, b := range [][]byte{rom(t, "5"), {0}, nil} {
			for _, i := range []int{0, 7, 8} {
				fails(t, m, i, b, plenty, api.ErrArg)
			}
			for _, l := range [][][]byte{nil, {nil}, {b}, make([][]byte, 9)} {
				refused(t, m, l, plenty)
				refused(t, m, l, -1)
			}
		}
	}
}

// P23.1: the errors of Add, which come ahead of those of the program.
func TestNoRoomForASlot(t *testing.T) {
	broken := []byte{0}
	for i := range 8 {
		for _, b := range [][]byte{rom(t, "5"), rom(t, "drop"), broken, nil} {
			fails(t, occupied(desk(), uint32(i)), i, b, plenty, api.ErrExist)
			fails(t, crowded(desk(), api.MaxNodes), i, b, plenty, api.ErrMany)
			fails(t, crowded(occupied(desk(), uint32(i)), api.MaxNodes), i, b, plenty, api.ErrExist)
		}
		fails(t, occupied(desk(), uint32(i)), i^1, rom(t, "5"), plenty, api.OK)
		fails(t, crowded(desk(), api.MaxNodes-1), i, rom(t, "5"), plenty, api.OK)
		fails(t, crowded(desk(), api.MaxNodes-1), i, rom(t, `0 " x" new-device`), plenty, api.ErrMany)
		fails(t, crowded(desk(), api.MaxNodes-1), i, broken, plenty, api.ErrHead)
	}
}

// P23.1: the errors of programs, each one's own.
func TestErrorsOfPrograms(t *testing.T) {
	for text, want := range map[string]api.Errno{
		"drop": api.ErrUnder, "1 0 /": api.ErrZero, "1 @": api.ErrAlign, "4000 @": api.ErrAddr, "5000 alloc-mem": api.ErrRoom, "r>": api.ErrRet, "999 execute": api.ErrWord,
		"0 base!": api.ErrArg, "5 throw": api.ErrThrow, ": x begin again ; x": api.ErrFuel, "finish-device finish-device finish-device": api.ErrNode, `finish-device 1 0 2 " slot" new-device`: api.ErrExist,
		"my-parent": api.ErrSelf, `" zz" 2 $call-method`: api.ErrMethod, `finish-device 1 0 encode-int " model-of-this-machine-is-what-we-call-it" property`: api.ErrArg, "0 0 0 um/mod": api.ErrZero, ": x 60 0 do i loop 5 0 do i loop ; x": api.ErrOver,
	} {
		fails(t, desk(), 3, rom(t, text), plenty, want)
	}
	for body, want := range map[string]api.Errno{
		"": api.ErrToken, "\x47": api.ErrToken, "\x47\x00": api.ErrUnder, "\xb7\x00": api.ErrToken, "\xc2\x00": api.ErrControl, "\xb5\x08\x00\xb7\x00": api.ErrControl, "\x00": api.OK, "\xff\x47": api.OK, "\x08\x09\x00": api.OK,
	} {
		fails(t, desk(), 3, headed(t, body), plenty, want)
	}
	for _, b := range []string{"", "\x00", "\xf1", "\xf1\x08\x00\x00\x00\x00\x00", "\xf1\x08\x00\x01\x00\x00\x00\x09\x00", strings.Repeat("\x00", api.MaxFCode+1)} {
		fails(t, desk(), 3, []byte(b), plenty, api.ErrHead)
	}
}

// P23.1: slots in their order, each on the machine behind those ahead of it.
func TestAll(t *testing.T) {
	m := desk()
	y := errorsOf(t, m, roms(t, "", `." b"`, "drop", `." d"`, "", ".\" f\" 5 throw", `." g" 1 2 3`, ""), plenty,
		api.ErrNone, api.OK, api.ErrUnder, api.OK, api.ErrNone, api.ErrThrow, api.OK, api.ErrNone)
	if y.Out != "old bdg" || y.Node != bus || y.Self != onDisk || len(y.Tree) != onDesk+3 || len(y.Stack) != 2 {
		t.Error(told(y))
	}
	for n, want := range []string{"/", "/slot@1,0", "/slot@1,0/slot@2", "/slot@1", "/slot@3", "/slot@6"} {
		if s, e := tree.Path(y.Tree, n); s != want || e != api.OK {
			t.Errorf("%d: %q, %v; want %q", n, s, e, want)
		}
	}
	texts := strings.Split(strings.Repeat("5 constant x;", api.MaxSlots-1)+"5 constant x", ";")
	y = errorsOf(t, m, roms(t, texts...), plenty, make([]api.Errno, api.MaxSlots)...)
	if len(y.Tree) != onDesk+8 || len(y.Words) != len(m.Words)+8 || len(y.Codes) != len(m.Codes) || y.Codes[0] != len(m.Words)+7 {
		t.Error(told(y))
	}
}

// P23.1: how many slots there may be, and none of them.
func TestHowManySlots(t *testing.T) {
	for _, m := range []api.Machine{dict.New(), desk()} {
		for n := range 9 {
			l := make([]api.Errno, n)
			for i := range l {
				l[i] = api.ErrNone
			}
			rows := make([][]byte, n)
			if y := errorsOf(t, m, rows, 0, l...); !alike(y, m) {
				t.Errorf("%d empty slots: %v", n, told(y))
			}
			for i := range rows {
				rows[i] = []byte{}
			}
			if y := errorsOf(t, m, rows, 0, l...); !alike(y, m) {
				t.Errorf("%d empty slots: %v", n, told(y))
			}
		}
		for _, n := range []int{9, 10, 16, 256, 1 << 16} {
			refused(t, m, make([][]byte, n), plenty)
		}
		refused(t, m, roms(t, strings.Split(strings.Repeat("5;", 8)+"5", ";")...), plenty)
	}
	if y, l, e := every(t, desk(), nil, plenty); e != api.OK || len(l) != 0 || !alike(y, desk()) {
		t.Error(l, e)
	}
}

// P23.1: what a slot has bound or defined is there for those behind it; of one that fails nothing is.
func TestOneSlotAfterAnother(t *testing.T) {
	bound := headed(t, "\xb5\x08\x00\xba\x00") // needs a cell
	binds := headed(t, "\xa6\xb5\x08\x00\xba\x00")
	asks := headed(t, "\x08\x00\xa7\x20\x9d\x00")
	fails(t, dict.New(), 3, asks, plenty, api.ErrToken)
	y := errorsOf(t, dict.New(), [][]byte{asks, bound, asks, binds, asks}, plenty, api.ErrToken, api.ErrUnder, api.ErrToken, api.OK, api.OK)
	if y.Out != "2 " {
		t.Error(told(y))
	}
	spends := headed(t, "\xa6\xb5\x08\x00\xba\x46\x00") // binds, and fails behind it
	errorsOf(t, dict.New(), [][]byte{spends, asks}, plenty, api.ErrUnder, api.ErrToken)
	y = errorsOf(t, crowded(desk(), api.MaxNodes-1), roms(t, "drop", "", "5", "5"), plenty, api.ErrUnder, api.ErrNone, api.OK, api.ErrMany)
	if len(y.Tree) != api.MaxNodes {
		t.Error(told(y))
	}
	errorsOf(t, occupied(desk(), 1, 3), roms(t, "5", "5", "", "", "drop"), plenty, api.OK, api.ErrExist, api.ErrNone, api.ErrNone, api.ErrUnder)
	errorsOf(t, desk(), roms(t, `finish-device 2 1 " slot" new-device`, "5", "5"), plenty, api.OK, api.OK, api.ErrExist)
	errorsOf(t, desk(), roms(t, "3000 alloc-mem", "3000 alloc-mem", "1000 alloc-mem"), plenty, api.OK, api.ErrRoom, api.OK)
}

// P23.1: the examples of the chapter.
func TestExamples(t *testing.T) {
	y, e := try(t, dict.New(), 2, rom(t, `7 encode-int " reg" property`), plenty)
	if e != api.OK {
		t.Fatal(e)
	}
	n, e := tree.Find(y.Tree, []api.Step{{Name: "slot", Unit: cells(2)}})
	if b, e2 := tree.Get(y.Tree, n, "reg"); e != api.OK || e2 != api.OK || !bytes.Equal(b, []byte{0, 0, 0, 7}) {
		t.Error(n, e, b, e2)
	}
	fails(t, dict.New(), 2, []byte{0}, plenty, api.ErrHead)
	if y := errorsOf(t, dict.New(), [][]byte{{0}}, plenty, api.ErrHead); !alike(y, dict.New()) {
		t.Error(told(y))
	}
}
