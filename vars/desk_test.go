package vars_test

import (
	"math/rand"
	"slices"
	"testing"

	"tinder/api"
	"tinder/nvram"
	"tinder/vars"
)

func chance() *rand.Rand { return rand.New(rand.NewSource(19)) }

// settings: a list, each setting as its name and its value.
func settings(l ...string) []api.Setting {
	var all []api.Setting
	for pair := range slices.Chunk(l, 2) {
		all = append(all, api.Setting{Name: pair[0], Value: pair[1]})
	}
	return all
}

// formed: that a value has this form.
func formed(t *testing.T, name, value, want string) {
	t.Helper()
	if got, e := vars.Form(name, value); e != api.OK || got != want {
		t.Errorf("Form(%q, %.40q): %.40q, %v; want %.40q", name, value, got, e, want)
	}
}

// unformed: that a value has no form, for that cause.
func unformed(t *testing.T, name, value string, want api.Errno) {
	t.Helper()
	if got, e := vars.Form(name, value); e != want || got != "" {
		t.Errorf("Form(%q, %.40q): %.40q, %v; want %v", name, value, got, e, want)
	}
}

// put: the settings with a variable set, which must be taken.
func put(t *testing.T, l []api.Setting, name, value string) []api.Setting {
	t.Helper()
	m, e := vars.Set(l, name, value)
	if e != api.OK {
		t.Fatalf("Set(%.60q, %q, %.40q): %v", l, name, value, e)
	}
	return m
}

// unput: that a variable isn't set, for that cause.
func unput(t *testing.T, l []api.Setting, name, value string, want api.Errno) {
	t.Helper()
	if m, e := vars.Set(l, name, value); e != want || len(m) != 0 {
		t.Errorf("Set(%.60q, %q, %.40q): %q, %v; want %v", l, name, value, m, e, want)
	}
}

// got: that a variable has this value.
func got(t *testing.T, l []api.Setting, name, want string) {
	t.Helper()
	if v, e := vars.Get(l, name); e != api.OK || v != want {
		t.Errorf("Get(%.60q, %q): %.40q, %v; want %.40q", l, name, v, e, want)
	}
}

// undecoded: that bytes are those of no right settings.
func undecoded(t *testing.T, b string) {
	t.Helper()
	if l, e := vars.Decode([]byte(b)); e != api.ErrText || len(l) != 0 {
		t.Errorf("Decode(%.60q): %.60q, %v; want ErrText", b, l, e)
	}
}

// saved: the row that saves settings, which must be one.
func saved(t *testing.T, nv []byte, l []api.Setting) []api.Byte {
	t.Helper()
	row, e := vars.Save(nv, l)
	if e != api.OK {
		t.Fatalf("Save of %q: %v", l, e)
	}
	return row
}

// unsaved: that there is no row, for that cause.
func unsaved(t *testing.T, nv []byte, l []api.Setting, want api.Errno) {
	t.Helper()
	if row, e := vars.Save(nv, l); e != want || len(row) != 0 {
		t.Errorf("Save of %.60q to %d bytes: %d, %v; want %v", l, len(nv), len(row), e, want)
	}
}

// loaded: that these settings are found.
func loaded(t *testing.T, nv []byte, want []api.Setting) {
	t.Helper()
	if l := vars.Load(nv); !slices.Equal(l, want) {
		t.Fatalf("Load: %q; want %q", l, want)
	}
}

// holding: an NVRAM whose bank that counts has these data.
func holding(t *testing.T, data string) []byte {
	t.Helper()
	nv := make([]byte, 512)
	row, e := nvram.Plan(nv, []byte(data))
	if e != api.OK {
		t.Fatal(e)
	}
	return nvram.Apply(nv, row, len(row))
}

// spared: a list with room behind it that is not to be touched, and all of both.
func spared[T any](l []T, mark T) ([]T, []T) {
	all := append(slices.Clone(l), slices.Repeat([]T{mark}, 16)...)
	return all[:len(l)], all
}
