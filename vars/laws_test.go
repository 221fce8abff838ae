package vars_test

import (
	"bytes"
	"math/rand"
	"slices"
	"strings"
	"testing"

	"tinder/api"
	"tinder/nvram"
	"tinder/vars"
)

func pick[T any](r *rand.Rand, l []T) T { return l[r.Intn(len(l))] }

func anyName(r *rand.Rand) string {
	if r.Intn(30) == 0 {
		return pick(r, strangers())
	}
	return pick(r, order)
}

func anyText(r *rand.Rand, n int) string {
	b := make([]byte, r.Intn(n))
	for i := range b {
		b[i] = byte(32 + r.Intn(95))
	}
	return string(b)
}

// anyValue: a text of any kind, most often one that the variable may have.
func anyValue(r *rand.Rand, name string) string {
	shapes := []string{"true", "false", "", "7", "007", "-1", "0", "-0", "5000", "05000", "4294967295", "4294967296", "disk net", "keyboard", "no", "\n", "a\xff", "a=b"}
	switch {
	case r.Intn(6) == 0:
		return pick(r, shapes)
	case strings.HasSuffix(name, "?"):
		return pick(r, shapes[:2])
	case slices.Contains(numbers(), name):
		return pick(r, []string{"", "", "0", "-"}) + pick(r, []string{"0", "7", "35", "5000", "4294967295", "4294967296"})
	case r.Intn(5) == 0:
		return anyText(r, 135)
	}
	return anyText(r, 12)
}

// anyRight: settings that are right.
func anyRight(r *rand.Rand) []api.Setting {
	var l []api.Setting
	for _, name := range order {
		if value := anyValue(r, name); r.Intn(2) == 0 && modelKeeps(name, value) {
			l = append(l, api.Setting{Name: name, Value: value})
		}
	}
	return l
}

// anySettings: right ones, or nearly so.
func anySettings(r *rand.Rand) []api.Setting {
	l := anyRight(r)
	if r.Intn(2) == 0 || len(l) == 0 {
		return l
	}
	i, name := r.Intn(len(l)), anyName(r)
	switch r.Intn(4) {
	case 0:
		l[i].Value = anyValue(r, l[i].Name)
	case 1:
		l[i].Name = name
	case 2:
		j := r.Intn(len(l))
		l[i], l[j] = l[j], l[i]
	case 3:
		l = slices.Insert(l, i, api.Setting{Name: name, Value: anyValue(r, name)})
	}
	return l
}

// anyData: the bytes of settings, or what is near to such.
func anyData(r *rand.Rand) []byte {
	b := bytesOf(anySettings(r))
	for range max(0, r.Intn(6)-3) {
		switch at := r.Intn(len(b) + 1); {
		case at == len(b) || r.Intn(3) == 0:
			b = slices.Insert(b, at, pick(r, []byte{0, '=', '0', 'a', 200}))
		case r.Intn(2) == 0:
			b = slices.Delete(b, at, at+1)
		default:
			b[at] = byte(r.Intn(256))
		}
	}
	return b
}

// P19.1: all calls that ask settings, as the model has them, at right settings and wrong ones.
func TestAgainstModel(t *testing.T) {
	r := chance()
	counts := map[api.Errno]int{}
	for range 30000 {
		l, name := anySettings(r), anyName(r)
		value := anyValue(r, name)
		if want, got := modelRight(l), vars.Right(l); got != want {
			t.Fatalf("Right(%q): %v", l, got)
		}
		want, e := modelForm(name, value)
		if got, ge := vars.Form(name, value); got != want || ge != e {
			t.Fatalf("Form(%q, %q): %q, %v; want %q, %v", name, value, got, ge, want, e)
		}
		want, e = modelGet(l, name)
		if got, ge := vars.Get(l, name); got != want || ge != e {
			t.Fatalf("Get(%q, %q): %q, %v; want %q, %v", l, name, got, ge, want, e)
		}
		m, e := modelSet(l, name, value)
		if got, ge := vars.Set(l, name, value); !slices.Equal(got, m) || ge != e {
			t.Fatalf("Set(%q, %q, %q): %q, %v; want %q, %v", l, name, value, got, ge, m, e)
		}
		counts[e]++
		b, e := modelEncode(l)
		if got, ge := vars.Encode(l); !bytes.Equal(got, b) || ge != e {
			t.Fatalf("Encode(%q): %q, %v; want %q, %v", l, got, ge, b, e)
		}
		counts[e]++
	}
	for _, e := range []api.Errno{api.OK, api.ErrArg, api.ErrNone, api.ErrType, api.ErrRoom} {
		if counts[e] < 100 {
			t.Errorf("too few of a kind: %v", counts)
		}
	}
}

// P19.1: bytes as the model reads them: those of settings, and such as are near to them.
func TestDecodeAgainstModel(t *testing.T) {
	r := chance()
	counts := map[api.Errno]int{}
	for range 30000 {
		b := anyData(r)
		want, e := modelDecode(b)
		if got, ge := vars.Decode(b); !slices.Equal(got, want) || ge != e {
			t.Fatalf("Decode(%q): %q, %v; want %q, %v", b, got, ge, want, e)
		}
		counts[e]++
	}
	if min(counts[api.OK], counts[api.ErrText]) < 3000 {
		t.Errorf("too few of a kind: %v", counts)
	}
}

// P19.1: NVRAMs of any kind, loaded and saved as the model has them.
func TestNVRAMAgainstModel(t *testing.T) {
	r := chance()
	nv := make([]byte, 512)
	counts := map[api.Errno]int{}
	for range 5000 {
		l := anySettings(r)
		want, e := modelSave(nv, l)
		row, ge := vars.Save(nv, l)
		if !slices.Equal(row, want) || ge != e {
			t.Fatalf("Save(%x, %q): %v, %v; want %v, %v", nv, l, row, ge, want, e)
		}
		counts[e]++
		if r.Intn(4) == 0 {
			data := anyData(r)
			row, _ = nvram.Plan(nv, data[:min(len(data), 248)])
		}
		nv = nvram.Apply(nv, row, r.Intn(2*len(row)+1))
		loaded(t, nv, modelLoad(nv))
		if r.Intn(20) == 0 {
			nv = make([]byte, pick(r, []int{512, 512, 512, 511, 513}))
		}
	}
	if min(counts[api.OK], counts[api.ErrArg]) < 500 {
		t.Errorf("too few of a kind: %v", counts)
	}
}

// P19.1: all rows of three settings out of a small stock, and their bytes.
func TestAllShortRows(t *testing.T) {
	stock := settings("auto-boot?", "false", "auto-boot?", "true", "boot-file", "", "boot-file", "=", "boot-limit", "7", "boot-limit", "5000", "boot-limit", "07", "boot-limit", "x",
		"nvramrc", "n", "screen-turn", "0", "screen-turn", "7", "use-nvramrc?", "true", "use-nvramrc?", "7", "zz", "7", "", "")
	right := 0
	for _, x := range stock {
		for _, y := range stock {
			for _, z := range stock {
				for n, l := range [][]api.Setting{{x}, {x, y}, {x, y, z}} {
					if got, want := vars.Right(l), modelRight(l); got != want {
						t.Fatalf("Right(%q): %v", l, got)
					} else if got && n == 2 {
						right++
					}
					m, e := vars.Decode(bytesOf(l))
					if want, we := modelDecode(bytesOf(l)); e != we || !slices.Equal(m, want) {
						t.Fatalf("Decode(%q): %q, %v; want %q, %v", bytesOf(l), m, e, want, we)
					}
				}
			}
		}
	}
	if right != 20 {
		t.Errorf("%d rows of three are right; want 20", right)
	}
}

// everySet: settings for each set of variables, with their values.
func everySet(column int) [][]api.Setting {
	var all [][]api.Setting
	for set := range 1 << len(variables()) {
		var l []api.Setting
		for i, v := range variables() {
			if set>>i&1 == 1 {
				l = append(l, settings(v[0], v[column])...)
			}
		}
		all = append(all, l)
	}
	return all
}

// P19.2: what was encoded is decoded the same, for each set of variables.
func TestEachSetThereAndBack(t *testing.T) {
	for _, column := range []int{2, 3} {
		for _, l := range everySet(column) {
			b, e := vars.Encode(l)
			if e != api.OK || !bytes.Equal(b, bytesOf(l)) {
				t.Fatalf("Encode(%q): %q, %v", l, b, e)
			}
			m, e := vars.Decode(b)
			if e != api.OK || !slices.Equal(m, l) || !vars.Right(m) {
				t.Fatalf("Decode(%q): %q, %v", b, m, e)
			}
		}
	}
}

// P19.2: what was encoded is decoded the same; what was decoded is encoded the same, where there is room.
func TestThereAndBack(t *testing.T) {
	r := chance()
	tight := 0
	for range 20000 {
		l := anyRight(r)
		b, e := vars.Encode(l)
		if e == api.OK {
			m, de := vars.Decode(b)
			if de != api.OK || !slices.Equal(m, l) {
				t.Fatalf("Decode(%q): %q, %v", b, m, de)
			}
		} else if e != api.ErrRoom || len(bytesOf(l)) <= 248 {
			t.Fatalf("Encode(%q): %v", l, e)
		} else {
			tight++
		}
		data := anyData(r)
		if m, e := vars.Decode(data); e == api.OK && !bytes.Equal(bytesOf(m), data) {
			t.Fatalf("Decode(%q): %q", data, m)
		}
	}
	if tight < 50 {
		t.Errorf("too few without room: %d", tight)
	}
}

// P19.2, P19.1: what was set is got, all other variables keep their values, and what comes of it is right.
func TestSetAndGot(t *testing.T) {
	r := chance()
	l := settings()
	for range 20000 {
		name := pick(r, order)
		value := anyValue(r, name)
		form, e := vars.Form(name, value)
		if e != api.OK {
			continue
		}
		m := put(t, l, name, value)
		if !vars.Right(m) {
			t.Fatalf("Set(%q, %q, %q): %q isn't right", l, name, value, m)
		}
		for _, other := range order {
			want, _ := vars.Get(l, other)
			if other == name {
				want = form
			}
			if v, e := vars.Get(m, other); e != api.OK || v != want {
				t.Fatalf("Get(%q, %q): %q, %v; want %q", m, other, v, e, want)
			}
		}
		l = m
	}
}

// P19.2: each set of variables, set in any order, comes to the same settings; set back, to none.
func TestSetInAnyOrder(t *testing.T) {
	r := chance()
	for _, want := range everySet(2) {
		var l []api.Setting
		for _, i := range r.Perm(len(want)) {
			l = put(t, l, want[i].Name, want[i].Value)
		}
		if !slices.Equal(l, want) {
			t.Fatalf("set: %q; want %q", l, want)
		}
		for _, i := range r.Perm(len(want)) {
			usual, _ := vars.Default(want[i].Name)
			l = put(t, l, want[i].Name, usual)
		}
		if len(l) != 0 {
			t.Fatalf("set back: %q", l)
		}
	}
}

// P19.2: the form of a form is itself, and setting it changes nothing any more.
func TestFormOfForm(t *testing.T) {
	r := chance()
	for range 20000 {
		name := pick(r, order)
		form, e := vars.Form(name, anyValue(r, name))
		if e != api.OK {
			continue
		}
		formed(t, name, form, form)
		l := put(t, nil, name, form)
		if usual, _ := vars.Default(name); (usual == form) != (len(l) == 0) {
			t.Fatalf("Set(%q, %q): %q", name, form, l)
		}
		if m := put(t, l, name, form); !slices.Equal(l, m) {
			t.Fatalf("Set again: %q; want %q", m, l)
		}
	}
}

// cut: that settings are saved in such a way that, wherever the power goes, those from ahead are loaded, or the new ones; what is there when they are saved.
func cut(t *testing.T, nv []byte, l []api.Setting) []byte {
	t.Helper()
	was := vars.Load(nv)
	row := saved(t, nv, l)
	for n := -1; n < len(row); n++ {
		loaded(t, nvram.Apply(nv, row, n), was)
	}
	nv = nvram.Apply(nv, row, len(row))
	loaded(t, nv, l)
	return nv
}

// P19.3: old or new, for each set of variables, saved one after the other.
func TestCutAtEachSet(t *testing.T) {
	nv := make([]byte, 512)
	for _, l := range everySet(2) {
		nv = cut(t, nv, l)
	}
}

// P19.3: old or new, for any settings there is room for, on any bytes.
func TestCutOfAnyBytes(t *testing.T) {
	r := chance()
	nv := make([]byte, 512)
	for range 1500 {
		l := anyRight(r)
		if _, e := vars.Encode(l); e != api.OK {
			continue
		}
		nv = cut(t, nv, l)
		switch r.Intn(8) {
		case 0:
			r.Read(nv)
		case 1:
			nv[r.Intn(512)] ^= byte(1 + r.Intn(255))
		}
	}
}

// P19.3: the power goes again and again, and settings are saved again on what it left.
func TestCutAgainAndAgain(t *testing.T) {
	r := chance()
	nv, now := make([]byte, 512), settings()
	whole := 0
	for range 5000 {
		l := put(t, now, pick(r, texts()), anyText(r, 20))
		row := saved(t, nv, l)
		n := r.Intn(2 * len(row))
		nv = nvram.Apply(nv, row, n)
		if n >= len(row) {
			now = l
			whole++
		}
		loaded(t, nv, now)
	}
	if whole < 1000 {
		t.Errorf("too few whole: %d", whole)
	}
}

// answers: what all calls answer, as lists that may be written over.
func answers(nv, data []byte, l []api.Setting) ([]string, [][]api.Setting, []byte, []api.Byte) {
	set, _ := vars.Set(l, "boot-limit", "9")
	same, _ := vars.Set(l, "boot-limit", "7")
	decoded, _ := vars.Decode(data)
	b, _ := vars.Encode(l)
	row, _ := vars.Save(nv, l)
	vars.Right(l)
	vars.Get(l, "boot-file")
	return vars.Names(), [][]api.Setting{set, same, decoded, vars.Load(nv)}, b, row
}

// P19.1, P1: what is answered is new memory; what is handed in is left as it was, the room behind it too.
func TestNothingIsShared(t *testing.T) {
	l, allL := spared(settings("boot-file", "a=b", "boot-limit", "7"), api.Setting{Name: "spare", Value: "room"})
	data, allData := spared(bytesOf(l), 0x5a)
	nv, allNV := spared(holding(t, string(data)), 0x5a)
	wasL, wasData, wasNV := slices.Clone(allL), slices.Clone(allData), slices.Clone(allNV)
	names1, lists1, b1, row1 := answers(nv, data, l)
	names2, lists2, b2, row2 := answers(nv, data, l)
	for _, m := range lists1 {
		clear(m[:cap(m)])
	}
	clear(names1[:cap(names1)])
	clear(b1[:cap(b1)])
	clear(row1[:cap(row1)])
	if !slices.Equal(allL, wasL) || !bytes.Equal(allData, wasData) || !bytes.Equal(allNV, wasNV) {
		t.Fatal("what is handed in is changed or shared")
	}
	clear(allL)
	clear(allData)
	clear(allNV)
	same := settings("boot-file", "a=b", "boot-limit", "7")
	for i, want := range [][]api.Setting{settings("boot-file", "a=b", "boot-limit", "9"), same, same, same} {
		if !slices.Equal(lists2[i], want) {
			t.Errorf("the answer %d is shared: %q", i, lists2[i])
		}
	}
	if !slices.Equal(names2, order) || string(b2) != "boot-file=a=b\x00boot-limit=7\x00" || len(row2) != 36 || row2[35].V != 0xa5 {
		t.Errorf("what is answered is shared: %q, %q, %v", names2, b2, row2)
	}
}

// P1: what was refused is not touched either.
func TestRefusedIsLeft(t *testing.T) {
	for _, l := range wrong() {
		m, all := spared(l, api.Setting{Name: "spare", Value: "room"})
		was := slices.Clone(all)
		b, allB := spared(bytesOf(l), 0x5a)
		wasB := slices.Clone(allB)
		vars.Right(m)
		vars.Set(m, "boot-limit", "7")
		vars.Encode(m)
		vars.Save(nil, m)
		vars.Decode(b)
		vars.Load(b)
		if !slices.Equal(all, was) || !bytes.Equal(allB, wasB) {
			t.Errorf("some of %.60q is changed", l)
		}
	}
}

// P1: a call hangs on its arguments alone: nothing that was set, got or loaded is to be had of the next one.
func TestNothingIsKept(t *testing.T) {
	for range 3 {
		l := put(t, nil, "boot-limit", "7")
		got(t, l, "boot-limit", "7")
		got(t, nil, "boot-limit", "5000")
		loaded(t, holding(t, "boot-limit=8\x00"), settings("boot-limit", "8"))
		loaded(t, make([]byte, 512), nil)
		if usual, e := vars.Default("boot-limit"); usual != "5000" || e != api.OK {
			t.Errorf("Default: %q, %v", usual, e)
		}
		if !slices.Equal(vars.Names(), order) {
			t.Errorf("Names: %q", vars.Names())
		}
	}
}
