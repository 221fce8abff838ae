package block_test

import (
	"bytes"
	"math"
	"math/rand"
	"slices"
	"testing"

	"tinder/api"
	"tinder/block"
)

const (
	sectorBytes = 512
	diskBytes   = 512 * 64
)

func chance() *rand.Rand { return rand.New(rand.NewSource(20)) }

func anyBytes(r *rand.Rand, n int) []byte {
	b := make([]byte, n)
	for i := range b {
		b[i] = byte(r.Intn(256))
	}
	return b
}

// disk: one of so many sectors, no two of which have the same bytes.
func disk(sectors int) []byte { return marked(sectors*sectorBytes, 1) }

// marked: so many bytes that go by an odd rule, so that no piece of them stands elsewhere too.
func marked(n int, by uint32) []byte {
	b := make([]byte, n)
	x := by
	for i := range b {
		x = x*1664525 + 1013904223
		b[i] = byte(x >> 24)
	}
	return b
}

// sizes: of disks, in sectors, from none to the most.
func sizes() []int { return []int{0, 1, 2, 3, 63, 64} }

// misfits: lengths that no disk has, from one byte to far beyond the most.
func misfits() []int {
	return []int{1, 2, 511, 513, 1023, 1025, diskBytes - 1, diskBytes + 1, diskBytes + 511, diskBytes + 512, diskBytes + 1024, 2 * diskBytes}
}

// edges: places and lengths about the ends of sectors and of a disk of so many bytes.
func edges(size int) []int {
	l := []int{0, 1, 255, 256, 510, 511, 512, 513, 767, 1022, 1023, 1024, 1025, 1536}
	l = append(l, size-1025, size-1024, size-513, size-512, size-511, size-1, size, size+1, size+512)
	slices.Sort(l)
	return slices.Compact(slices.DeleteFunc(l, func(n int) bool { return n < 0 }))
}

// wild: numbers that neither a place nor a length can be; sums with them wrap round.
func wild() []int {
	return []int{-1, -2, -511, -512, -513, -diskBytes, math.MinInt, math.MinInt + 1, math.MinInt / 512, math.MaxInt, math.MaxInt - 1, math.MaxInt - 511, math.MaxInt / 512, math.MaxInt/512 + 1, 1 << 32, 1 << 55}
}

// acts: of a row of numbers: n is that sector read, -1-n the sector n written.
func acts(l ...int) []api.Act {
	var all []api.Act
	for _, n := range l {
		if n < 0 {
			all = append(all, api.Act{Write: true, Sector: -1 - n})
			continue
		}
		all = append(all, api.Act{Sector: n})
	}
	return all
}

// planned: that this must be done.
func planned(t *testing.T, at, n int, want []api.Act) {
	t.Helper()
	if got, e := block.Plan(at, n); e != api.OK || !slices.Equal(got, want) {
		t.Fatalf("Plan(%d, %d): %v, %v; want %v", at, n, got, e, want)
	}
}

// same: that a call answered these bytes, or that error and nothing beside it.
func same(t *testing.T, call string, got []byte, e api.Errno, want []byte, we api.Errno) {
	t.Helper()
	if e != we || !bytes.Equal(got, want) {
		t.Fatalf("%s: %d bytes, %.20x.., %v; want %d, %.20x.., %v", call, len(got), got, e, len(want), want, we)
	}
}

// spared: bytes with room behind them that is not to be touched, and all of both.
func spared(b []byte) ([]byte, []byte) {
	all := append(slices.Clone(b), bytes.Repeat([]byte{0xee}, 64)...)
	return all[:len(b)], all
}
