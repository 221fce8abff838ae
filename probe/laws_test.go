package probe_test

import (
	"fmt"
	"math"
	"math/rand"
	"slices"
	"strings"
	"testing"

	"tinder/api"
	"tinder/dict"
	"tinder/fcc"
	"tinder/head"
	"tinder/outer"
	"tinder/probe"
)

// piece: of a text that a slot's program is made of.
func piece(r *rand.Rand) string {
	if seldom(r, 6) {
		return pick(r, "drop", "5 throw", "1 0 /", "finish-device", "finish-device finish-device finish-device", "0 base!", "r>", "3000 alloc-mem drop", "1 @", "my-parent", `." much" cr`, ": b begin again ; b", `" set" 2 $call-method`, "16 0 encode-int drop", `0 " a" new-device`)
	}
	return pick(r,
		"5", "2 3 +", "depth .", `." x"`, "my-self .", "7 value v", "v 1 + to v", "4 constant k", "k .", ": open 1 ;", ": m k dup * ;", "m .", "variable y", "y @ 1 + y !", "3 instance value c", `7 encode-int " reg" property`, `" reg" delete-property`,
		fmt.Sprintf(`%d 1 " a" new-device`, r.Intn(9)), fmt.Sprintf(`finish-device %d 1 " slot" new-device`, r.Intn(8)), "finish-device", "10 base!", `9 " set" 2 ['] $call-method catch`, "here .", "1 2 3 2drop drop", "defer f ['] dup to f", "8 alloc-mem drop",
		": c 5 0 do i drop loop ; c", `" ab" encode-string " name" property`, `" model" get-my-property .`)
}

// bytesOfAny: those of a slot: most of them programs, some of which are spoilt.
func bytesOfAny(r *rand.Rand) []byte {
	if seldom(r, 8) {
		return nil
	}
	var words []string
	for range r.Intn(7) {
		words = append(words, strings.ReplaceAll(piece(r), "[']", "'"))
	}
	b, e := fcc.Compile(strings.Join(words, " "))
	if e != api.OK {
		b, _ = fcc.Compile("7 value v 6 to v")
	}
	switch r.Intn(8) {
	case 0:
		b[r.Intn(len(b))] ^= byte(1 + r.Intn(255))
	case 1:
		b = b[:r.Intn(len(b)+1)]
	case 2, 3:
		// A spoilt body with a sum that is right.
		body := slices.Clone(b[8:])
		body[r.Intn(len(body))] = pick[byte](r, 0, 0xff, 0x08, 0xb7, 0xc2, 0x46, 0x47, 0x10, byte(r.Intn(256)))
		b, _ = head.Make(body, seldom(r, 2))
	}
	return b
}

func rowsOf(r *rand.Rand) [][]byte {
	l := make([][]byte, r.Intn(9))
	for i := range l {
		l[i] = bytesOfAny(r)
	}
	return l
}

// machineOf: the desk or a new machine, some things of which may be near their limits.
func machineOf(r *rand.Rand) api.Machine {
	m := desk()
	if seldom(r, 4) {
		m = dict.New()
	}
	m.Node = r.Intn(len(m.Tree)+1) - 1
	if seldom(r, 2) {
		m.Self = -1
	}
	m.Stack = many(pick(r, 0, 1, 5, api.MaxStack))
	if seldom(r, 8) {
		m = wordy(m, api.MaxWords-r.Intn(6))
	}
	if seldom(r, 8) {
		m.Out = strings.Repeat("x", api.MaxOut-r.Intn(12))
	}
	if seldom(r, 8) {
		m.Mem = make([]byte, api.MaxMem-r.Intn(40))
	}
	if seldom(r, 4) {
		m = occupied(m, uint32(r.Intn(8)), 8)
	}
	if seldom(r, 6) {
		m = crowded(m, api.MaxNodes-r.Intn(6))
	}
	return m
}

func fuelOf(r *rand.Rand) int { return pick(r, 200, 200, 200, r.Intn(20)) }

// P23.1: random slots of random machines come to what the model comes to; what comes of them is formed (try and every ask that).
func TestAgainstModel(t *testing.T) {
	r := chance()
	ends := map[api.Errno]int{}
	for range 2500 {
		m, fuel := machineOf(r), fuelOf(r)
		l := rowsOf(r)
		y, all, e := every(t, m, l, fuel)
		x, want := modelAll(m, l, fuel)
		if e != api.OK || !slices.Equal(all, want) || !alike(y, x) {
			t.Fatalf("All of %x with %d steps: %v, %v\n%s\nwant %v\n%s", l, fuel, e, all, told(y), want, told(x))
		}
		for _, e := range all {
			ends[e]++
		}
		i, b := pick(r, r.Intn(8), r.Intn(8), r.Intn(8), -1, 8), bytesOfAny(r)
		y, e = try(t, m, i, b, fuel)
		x, wantE := modelTry(m, i, b, fuel)
		if e != wantE || !alike(y, x) {
			t.Fatalf("Try %d of %x with %d steps: %v\n%s\nwant %v\n%s", i, b, fuel, e, told(y), wantE, told(x))
		}
	}
	for _, e := range []api.Errno{
		api.OK, api.ErrNone, api.ErrUnder, api.ErrFuel, api.ErrHead, api.ErrToken, api.ErrControl, api.ErrExist, api.ErrMany, api.ErrNode, api.ErrRoom, api.ErrOut, api.ErrThrow,
	} {
		if ends[e] < 20 {
			t.Errorf("%v ended a slot only %d times: %v", e, ends[e], ends)
		}
	}
	if ends[api.OK] < 2500 {
		t.Errorf("only %d slots were taken: %v", ends[api.OK], ends)
	}
}

// P23.1: any bytes come to what the model comes to.
func TestAnyBytes(t *testing.T) {
	r := chance()
	ends := map[api.Errno]int{}
	for range 4000 {
		body := make([]byte, 1+r.Intn(20))
		r.Read(body)
		for i := range body {
			if seldom(r, 2) {
				body[i] = pick[byte](r, 0, 0xa5, 0xa6, 0xa7, 0x47, 0x51, 0x1e, 0x20, 0xcc, 0x9d)
			}
		}
		b := headed(t, string(body)+"\x00")
		if seldom(r, 4) {
			b = body
		}
		y, e := try(t, desk(), 1, b, 100)
		x, want := modelTry(desk(), 1, b, 100)
		if e != want || !alike(y, x) {
			t.Fatalf("%x: %v\n%s\nwant %v\n%s", b, e, told(y), want, told(x))
		}
		ends[e]++
	}
	if ends[api.OK] < 200 || ends[api.ErrToken] < 200 || ends[api.ErrHead] < 200 || ends[api.ErrUnder] < 200 {
		t.Error(ends)
	}
}

// P23.2: a slot that fails is as if it were empty: for the machine, and for all other slots.
func TestAFailureIsItsOwn(t *testing.T) {
	r := chance()
	failed, followed := 0, 0
	for range 2000 {
		m, fuel := machineOf(r), fuelOf(r)
		l := rowsOf(r)
		y, all, e := every(t, m, l, fuel)
		if e != api.OK {
			t.Fatal(e)
		}
		sound := twins(l)
		want := slices.Clone(all)
		for i, e := range all {
			if e != api.OK {
				sound[i], want[i] = nil, api.ErrNone
			}
			if e != api.OK && len(l[i]) > 0 {
				failed++
				followed += len(all[i+1:])
			}
		}
		x, others, e := every(t, m, sound, fuel)
		if e != api.OK || !slices.Equal(others, want) || !alike(x, y) {
			t.Fatalf("%x: %v\n%s\nwithout those that fail: %v\n%s", l, all, told(y), others, told(x))
		}
	}
	if failed < 1000 || followed < 2000 {
		t.Error(failed, followed)
	}
}

// P23.2: whatever a program does ahead of its error, and wherever it stands.
func TestNothingOfAFailureIsLeft(t *testing.T) {
	for _, text := range []string{
		`." x"`, "5 constant k", "6 value v 7 to v", "100 alloc-mem drop", "2 base!", `0 " a" new-device`, `finish-device 5 encode-int " reg" property`, "3 instance value c", ": open 1 ;", `77 " set" 2 $call-method`, `finish-device finish-device 0 " b" new-device`, "defer f ' dup to f", "1 2 3",
	} {
		for _, end := range []string{"5 throw", "2drop 2drop 2drop", "finish-device finish-device finish-device finish-device", ": z begin again ; z"} {
			for i := range 8 {
				l := make([][]byte, 8)
				l[i] = rom(t, text+" "+end)
				y, all, e := every(t, desk(), l, 100)
				if e != api.OK || all[i] == api.OK || all[i] == api.ErrNone || !alike(y, desk()) {
					t.Errorf("%s %s in %d: %v, %v\n%s", text, end, i, e, all, told(y))
				}
			}
			if y, e := try(t, desk(), 0, rom(t, text), 100); e != api.OK || alike(y, desk()) {
				t.Errorf("%s: %v", text, e)
			}
		}
	}
}

// stays, P23.3: is all there that was, with nothing changed that may not be?
func stays(t *testing.T, m, y api.Machine) {
	t.Helper()
	if len(y.Tree) < len(m.Tree) || len(y.Words) < len(m.Words) {
		t.Fatalf("%d devices of %d, %d words of %d", len(y.Tree), len(m.Tree), len(y.Words), len(m.Words))
	}
	for n, d := range m.Tree {
		if x := y.Tree[n]; x.Name != d.Name || x.Parent != d.Parent || !slices.Equal(x.Unit, d.Unit) {
			t.Fatalf("the device %d is %v; it was %v", n, x, d)
		}
	}
	for n, w := range m.Words {
		x := y.Words[n]
		if w.Kind == api.WValue || w.Kind == api.WDefer {
			w.N = x.N
		}
		if !alikeWord(x, w) {
			t.Fatalf("the word %d is %v; it was %v", n, x, w)
		}
	}
	if !slices.Equal(y.Stack, m.Stack) || y.Node != m.Node || y.Self != m.Self {
		t.Fatalf("%v, %d, %d; it was %v, %d, %d", y.Stack, y.Node, y.Self, m.Stack, m.Node, m.Self)
	}
	if len(y.Insts) != len(m.Insts) || !strings.HasPrefix(y.Out, m.Out) || len(y.Mem) < len(m.Mem) {
		t.Fatalf("%s; it was %s", told(y), told(m))
	}
}

// P23.3: devices and words stay, whatever slots do, also one behind the other.
func TestWhatWasThereStays(t *testing.T) {
	r := chance()
	grown := 0
	for range 1500 {
		m := machineOf(r)
		start := m
		for range 3 {
			y, _, e := every(t, m, rowsOf(r), fuelOf(r))
			if e != api.OK {
				t.Fatal(e)
			}
			stays(t, m, y)
			if x, e := try(t, y, r.Intn(8), bytesOfAny(r), fuelOf(r)); e == api.OK {
				stays(t, y, x)
				y = x
			}
			stays(t, start, y)
			m = y
		}
		grown += len(m.Tree) - len(start.Tree)
	}
	if grown < 2000 {
		t.Errorf("only %d devices", grown)
	}
}

// P23.1: a slot's program comes to what its text comes to, interpreted on the device (but for codes).
func TestAsItsSource(t *testing.T) {
	r := chance()
	n := 0
	for range 3000 {
		m := machineOf(r)
		m.Words, m.Codes, m.Insts, m.Self = m.Words[:api.Prims], nil, nil, -1
		var words []string
		for range r.Intn(6) {
			words = append(words, strings.ReplaceAll(piece(r), "[']", "'"))
		}
		text := strings.Join(words, " ")
		b, e := fcc.Compile(text)
		if e != api.OK {
			continue
		}
		y, e := try(t, m, 7, b, 300)
		ahead := occupied(m, 7)
		ahead.Node, ahead.Stack = len(m.Tree), nil
		if !dict.Formed(ahead) {
			continue
		}
		want, _, wantE := outer.Eval(ahead, text, 300)
		want.Stack, want.Node, want.Self = m.Stack, m.Node, m.Self
		if wantE != api.OK {
			want = api.Machine{}
		}
		if e != wantE || !alikeBut(y, want) {
			t.Fatalf("%q: %v\n%s\ninterpreted: %v\n%s", text, e, told(y), wantE, told(want))
		}
		if e == api.OK {
			n++
		}
	}
	if n < 500 {
		t.Errorf("only %d came through", n)
	}
}

// spared: a list like l with spare room behind it, which is marked.
func spared[T any](l []T, mark T) []T {
	all := append(slices.Clone(l), mark, mark)
	return all[:len(l)]
}

// sparedMachine: m with marked spare room behind each of its lists.
func sparedMachine(m api.Machine) api.Machine {
	m = twin(m)
	m.Stack, m.Mem, m.Codes = spared(m.Stack, 77), spared(m.Mem, 77), spared(m.Codes, 77)
	m.Words, m.Tree, m.Insts = spared(m.Words, api.Word{N: 77}), spared(m.Tree, api.Node{Parent: 77}), spared(m.Insts, api.Inst{Node: 77})
	for i := range m.Words {
		m.Words[i].Code = spared(m.Words[i].Code, api.Op{N: 77})
	}
	for i := range m.Tree {
		d := &m.Tree[i]
		d.Unit, d.Cells, d.Props = spared(d.Unit, 77), spared(d.Cells, 77), spared(d.Props, api.Prop{Name: "mark"})
		for k := range d.Props {
			d.Props[k].Data = spared(d.Props[k].Data, 77)
		}
	}
	for i := range m.Insts {
		m.Insts[i].Cells = spared(m.Insts[i].Cells, 77)
	}
	return m
}

// all: the list with its spare room.
func all[T any](l []T) []T { return l[:cap(l)] }

// inside: m with the spare room of each of its lists laid open, told as a text.
func inside(m api.Machine) string {
	var b strings.Builder
	fmt.Fprint(&b, all(m.Stack), all(m.Mem), all(m.Codes), m.Base, m.Node, m.Self, m.Out)
	for _, w := range all(m.Words) {
		fmt.Fprintf(&b, "%q %d %d %d %v ", w.Name, w.Node, w.Kind, w.N, all(w.Code))
	}
	for _, d := range all(m.Tree) {
		fmt.Fprintf(&b, "%q %v %d %v ", d.Name, all(d.Unit), d.Parent, all(d.Cells))
		for _, p := range all(d.Props) {
			fmt.Fprintf(&b, "%q %v ", p.Name, all(p.Data))
		}
	}
	for _, x := range all(m.Insts) {
		fmt.Fprintf(&b, "%d %d %q %v ", x.Node, x.Parent, x.Args, all(x.Cells))
	}
	return b.String()
}

// insideRows: likewise of rows.
func insideRows(l [][]byte) string {
	var b strings.Builder
	for _, row := range all(l) {
		fmt.Fprint(&b, all(row), " ")
	}
	return b.String()
}

// overwrite: each number of a list, spare room and all.
func overwrite[T uint32 | int | byte | api.Errno](l []T) {
	for i := range all(l) {
		all(l)[i] ^= 1
	}
}

// scribble: writes over all that m's lists hold, spare room and all.
func scribble(m api.Machine) {
	for i, w := range all(m.Words) {
		for k := range all(w.Code) {
			all(w.Code)[k].N ^= 1
		}
		all(m.Words)[i].N ^= 1
	}
	for i, d := range all(m.Tree) {
		overwrite(d.Unit)
		overwrite(d.Cells)
		for k, p := range all(d.Props) {
			overwrite(p.Data)
			all(d.Props)[k].Name += "!"
		}
		all(m.Tree)[i].Parent ^= 1
	}
	for i, x := range all(m.Insts) {
		overwrite(x.Cells)
		all(m.Insts)[i].Parent ^= 1
	}
	overwrite(m.Stack)
	overwrite(m.Codes)
	overwrite(m.Mem)
}

// shares: does a call change or keep what is handed in, or share memory with it?
func shares(t *testing.T, m api.Machine, l [][]byte, call func(m api.Machine, l [][]byte) (api.Machine, []api.Errno)) {
	t.Helper()
	m = sparedMachine(m)
	l = spared(twins(l), []byte{77})
	for i := range l {
		l[i] = spared(l[i], 77)
	}
	kept, rowsKept := inside(m), insideRows(l)
	one, oneErrors := call(m, l)
	two, twoErrors := call(m, l)
	said, errorsSaid := inside(two), fmt.Sprint(all(twoErrors))
	if inside(m) != kept || insideRows(l) != rowsKept {
		t.Fatalf("%x: what is handed in is changed", l)
	}
	scribble(one)
	overwrite(oneErrors)
	if inside(m) != kept || insideRows(l) != rowsKept {
		t.Fatalf("%x: its answer shares memory with its arguments", l)
	}
	if inside(two) != said || fmt.Sprint(all(twoErrors)) != errorsSaid {
		t.Fatalf("%x: two answers share memory", l)
	}
	scribble(m)
	for _, row := range l {
		overwrite(row)
	}
	if inside(two) != said || fmt.Sprint(all(twoErrors)) != errorsSaid {
		t.Fatalf("%x: an argument is kept", l)
	}
}

// P1: what is handed in is left as it was, spare room and all, and shares no memory with what is answered; nothing is kept from call to call.
func TestNothingIsChangedOrShared(t *testing.T) {
	r := chance()
	for range 150 {
		m, l := machineOf(r), rowsOf(r)
		shares(t, m, l, func(m api.Machine, l [][]byte) (api.Machine, []api.Errno) {
			y, all, _ := probe.All(m, l, 200)
			return y, all
		})
		for i, row := range l {
			shares(t, m, [][]byte{row}, func(m api.Machine, l [][]byte) (api.Machine, []api.Errno) {
				y, _ := probe.Try(m, i, l[0], 200)
				return y, nil
			})
		}
	}
	for _, l := range [][][]byte{nil, {nil}, {{0}, {}}, roms(t, "", "drop")} {
		shares(t, desk(), l, func(m api.Machine, l [][]byte) (api.Machine, []api.Errno) {
			y, all, _ := probe.All(m, l, 200)
			return y, all
		})
	}
}

// P1: whatever is handed in, the calls end and don't panic.
func TestAnyArguments(t *testing.T) {
	machines := []api.Machine{dict.New(), desk(), crowded(desk(), api.MaxNodes+1)}
	for _, m := range unlike() {
		machines = append(machines, m)
	}
	rows := [][]byte{nil, {0}, {0xf1}, make([]byte, api.MaxFCode), make([]byte, 1<<20), rom(t, ": x begin again ; x"), rom(t, strings.Repeat("7 ", 65))}
	for _, m := range machines {
		for _, fuel := range []int{math.MinInt, -1, 0, 50, api.MaxFuel, api.MaxFuel + 1, math.MaxInt} {
			for _, row := range rows {
				for _, i := range []int{math.MinInt, -1, 0, 7, 8, math.MaxInt} {
					try(t, m, i, row, fuel)
				}
			}
			every(t, m, rows, fuel)
			every(t, m, make([][]byte, 1<<16), fuel)
		}
	}
}
