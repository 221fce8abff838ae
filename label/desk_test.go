package label_test

import (
	"bytes"
	"math"
	"math/rand"
	"slices"
	"testing"

	"tinder/api"
	"tinder/label"
)

const (
	sectorBytes = 512
	mostSectors = 64
	letters     = "abcdefgh"
)

func chance() *rand.Rand { return rand.New(rand.NewSource(21)) }

func anyBytes(r *rand.Rand, n int) []byte {
	b := make([]byte, n)
	for i := range b {
		b[i] = byte(r.Intn(256))
	}
	return b
}

// parts: of a row of numbers, two a partition; the others are empty.
func parts(l ...uint32) [8]api.Part {
	var all [8]api.Part
	for i, n := range l {
		if i%2 == 0 {
			all[i/2].Start = n
		} else {
			all[i/2].Count = n
		}
	}
	return all
}

// crossing: a sector's last two bytes set so that all of them cross to noughts, whatever else is wrong.
func crossing(b []byte) []byte {
	b = slices.Clone(b)
	b[510], b[511] = 0, 0
	for i := 0; i < 510; i += 2 {
		b[510] ^= b[i]
		b[511] ^= b[i+1]
	}
	return b
}

// written: a label of any numbers, byte by byte.
func written(l [8]api.Part) []byte {
	b := make([]byte, 512)
	for k, p := range l {
		for i, n := range []uint32{p.Start, p.Count} {
			for j := range 4 {
				b[8*k+4*i+j] = byte(n >> (24 - 8*j))
			}
		}
	}
	b[508], b[509] = 0xda, 0xbe
	return crossing(b)
}

// disk: one of so many sectors with a label; no piece of what stands behind it stands elsewhere too.
func disk(sectors int, l [8]api.Part) []byte {
	d := make([]byte, sectors*sectorBytes)
	x := uint32(sectors)
	for i := range d {
		x = x*1664525 + 1013904223
		d[i] = byte(x >> 24)
	}
	copy(d, written(l))
	return d
}

// misfits: lengths that no disk has, from one byte to far beyond the most.
func misfits() []int {
	most := sectorBytes * mostSectors
	return []int{1, 2, 511, 513, 1023, 1025, most - 1, most + 1, most + 512, 2 * most}
}

// wild: numbers that neither a place nor a length can be; sums with them wrap round.
func wild() []int {
	return []int{-1, -2, -511, -512, -513, -1024, -32768, math.MinInt, math.MinInt + 1, math.MinInt + 1024, math.MaxInt, math.MaxInt - 1, math.MaxInt - 1024, 1 << 32, 1 << 55}
}

// windowed: that the window is this one, or that there is this error and noughts beside it.
func windowed(t *testing.T, d []byte, arg string, at, n int, we api.Errno) {
	t.Helper()
	if x, y, e := label.Window(d, arg); x != at || y != n || e != we {
		t.Fatalf("Window(of %d, %.20q): %d, %d, %v; want %d, %d, %v", len(d), arg, x, y, e, at, n, we)
	}
}

// same: that a call answered these bytes, or that error and nothing beside it.
func same(t *testing.T, call string, got []byte, e api.Errno, want []byte, we api.Errno) {
	t.Helper()
	if e != we || !bytes.Equal(got, want) {
		t.Fatalf("%s: %d bytes, %.20x.., %v; want %d, %.20x.., %v", call, len(got), got, e, len(want), want, we)
	}
}

// parsed: that the bytes are a label of these partitions, or none.
func parsed(t *testing.T, call string, b []byte, want [8]api.Part, we api.Errno) {
	t.Helper()
	if got, e := label.Parse(b); got != want || e != we {
		t.Fatalf("%s: %v, %v; want %v, %v", call, got, e, want, we)
	}
}

// spared: bytes with room behind them that is not to be touched, and all of both.
func spared(b []byte) ([]byte, []byte) {
	all := append(slices.Clone(b), bytes.Repeat([]byte{0xee}, 64)...)
	return all[:len(b)], all
}
