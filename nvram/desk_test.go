package nvram_test

import (
	"bytes"
	"encoding/hex"
	"math/rand"
	"slices"
	"strings"
	"testing"

	"tinder/api"
	"tinder/nvram"
)

func chance() *rand.Rand { return rand.New(rand.NewSource(18)) }

func anyBytes(r *rand.Rand, n int) []byte {
	b := make([]byte, n)
	for i := range b {
		b[i] = byte(r.Intn(256))
	}
	return b
}

// digits: the bytes that hexadecimal digits tell, blanks between them.
func digits(s string) []byte {
	b, err := hex.DecodeString(strings.ReplaceAll(s, " ", ""))
	if err != nil {
		panic(err)
	}
	return b
}

// both: the NVRAM whose banks begin with these bytes, noughts behind them.
func both(first, second []byte) []byte {
	nv := make([]byte, 512)
	copy(nv[:256], first)
	copy(nv[256:], second)
	return nv
}

// row: bytes to be written, each as its place and what it becomes.
func row(l ...int) []api.Byte {
	var all []api.Byte
	for pair := range slices.Chunk(l, 2) {
		all = append(all, api.Byte{At: pair[0], V: byte(pair[1])})
	}
	return all
}

// found: that these data are recovered, from that bank.
func found(t *testing.T, nv, data []byte, k int) {
	t.Helper()
	if got, at, ok := nvram.Recover(nv); !ok || at != k || !bytes.Equal(got, data) {
		t.Fatalf("Recover: %.40x (%d), %d, %v; want %.40x (%d), %d", got, len(got), at, ok, data, len(data), k)
	}
}

// missing: that nothing is recovered, and that nothing stands beside that.
func missing(t *testing.T, nv []byte) {
	t.Helper()
	if got, at, ok := nvram.Recover(nv); ok || at != 0 || len(got) != 0 {
		t.Fatalf("Recover: %.40x (%d), %d, %v; want nothing", got, len(got), at, ok)
	}
}

// planned: the row that writes data, which must be one.
func planned(t *testing.T, nv, data []byte) []api.Byte {
	t.Helper()
	l, e := nvram.Plan(nv, data)
	if e != api.OK || len(l) != len(data)+9 {
		t.Fatalf("Plan of %d bytes: %d, %v", len(data), len(l), e)
	}
	return l
}

// unplanned: that there is no row, for that cause.
func unplanned(t *testing.T, nv, data []byte, want api.Errno) {
	t.Helper()
	if l, e := nvram.Plan(nv, data); e != want || len(l) != 0 {
		t.Fatalf("Plan of %d bytes for %d: %d, %v; want %v", len(data), len(nv), len(l), e, want)
	}
}

// turned: with one byte another one.
func turned(b []byte, at int, by byte) []byte {
	b = slices.Clone(b)
	b[at] ^= by
	return b
}

// spared: a row with room behind it that is not to be touched, and all of both.
func spared[T any](l []T, mark T) ([]T, []T) {
	all := append(slices.Clone(l), slices.Repeat([]T{mark}, 32)...)
	return all[:len(l)], all
}
