package screen_test

import (
	"bytes"
	"math"
	"math/rand"
	"slices"
	"testing"

	"tinder/api"
	"tinder/screen"
)

func chance() *rand.Rand { return rand.New(rand.NewSource(22)) }

// pic: a picture of rows of letters; a full stop is a dark point.
func pic(rows ...string) api.Picture {
	var p api.Picture
	p.H = len(rows)
	for _, row := range rows {
		p.W = len(row)
		for _, x := range []byte(row) {
			if x == '.' {
				x = 0
			}
			p.Points = append(p.Points, x)
		}
	}
	return p
}

// told: a picture's points whose neighbours are all other ones, so that none can be taken for another.
func told(w, h int) api.Picture {
	p := api.Picture{W: w, H: h, Points: make([]byte, w*h)}
	x := uint32(w*65 + h)
	for i := range p.Points {
		x = x*1664525 + 1013904223
		p.Points[i] = byte(x >> 24)
	}
	return p
}

// anyPicture: of any size up to somewhat, about half of its points dark.
func anyPicture(r *rand.Rand) api.Picture {
	most := 7
	if r.Intn(20) == 0 {
		most = 65
	}
	p := api.Picture{W: r.Intn(most), H: r.Intn(most)}
	p.Points = make([]byte, p.W*p.H)
	for i := range p.Points {
		if r.Intn(2) == 0 {
			p.Points[i] = byte(1 + r.Intn(255))
		}
	}
	return p
}

// anyTurn: mostly few quarters, at times any number.
func anyTurn(r *rand.Rand) int {
	if r.Intn(3) == 0 {
		return int(r.Uint64())
	}
	return r.Intn(21) - 10
}

// wild: numbers far outside every range; sums and products with them wrap round.
func wild() []int {
	return []int{-65, -66, 65, 66, 128, -128, 1 << 16, 1 << 31, 1 << 32, -1 << 32, 1 << 62, math.MinInt, math.MinInt + 1, math.MinInt + 64, math.MaxInt, math.MaxInt - 1, math.MaxInt - 64}
}

// wrong: things that are no pictures, each for one cause alone.
func wrong() []api.Picture {
	l := []api.Picture{
		{W: 2, H: 2},
		{Points: []byte{1}},
		{W: 2, H: 2, Points: make([]byte, 3)},
		{W: 2, H: 2, Points: make([]byte, 5)},
		{W: 65, H: 1, Points: make([]byte, 65)},
		{W: 1, H: 65, Points: make([]byte, 65)},
		{W: -1, H: -1, Points: make([]byte, 1)},
		{W: -2, H: -3, Points: make([]byte, 6)},
		{W: 3, H: -1, Points: make([]byte, 3)},
		{W: 64, H: 64, Points: make([]byte, 4095)},
		{W: 64, H: 64, Points: make([]byte, 4097)},
		{W: 1 << 32, H: 1 << 32},
		{W: math.MinInt, H: 2},
		{W: math.MaxInt, H: math.MaxInt, Points: make([]byte, 1)},
	}
	for _, n := range append(wild(), -1) {
		l = append(l, api.Picture{W: n}, api.Picture{H: n})
	}
	return l
}

// same: that a call answered this picture, or that error and nothing beside it.
func same(t *testing.T, call string, got api.Picture, e api.Errno, want api.Picture, we api.Errno) {
	t.Helper()
	if e != we || got.W != want.W || got.H != want.H || !bytes.Equal(got.Points, want.Points) {
		t.Fatalf("%s: %d wide, %d high, %.40q, %v; want %d, %d, %.40q, %v", call, got.W, got.H, got.Points, e, want.W, want.H, want.Points, we)
	}
}

func placed(t *testing.T, w, h, quarters, x, y, wx, wy int) {
	t.Helper()
	if gx, gy := screen.Place(w, h, quarters, x, y); gx != wx || gy != wy {
		t.Fatalf("Place(%d, %d, %d, %d, %d): %d, %d; want %d, %d", w, h, quarters, x, y, gx, gy, wx, wy)
	}
}

func turned(t *testing.T, p api.Picture, quarters int) api.Picture {
	t.Helper()
	q, e := screen.Turn(p, quarters)
	if e != api.OK {
		t.Fatalf("Turn(%d by %d, %d): %v", p.W, p.H, quarters, e)
	}
	return q
}

func mirrored(t *testing.T, p api.Picture) api.Picture {
	t.Helper()
	q, e := screen.Mirror(p)
	if e != api.OK {
		t.Fatalf("Mirror(%d by %d): %v", p.W, p.H, e)
	}
	return q
}

// spared: a picture with room behind its points that is not to be touched, and all of both.
func spared(p api.Picture) (api.Picture, []byte) {
	n := len(p.Points)
	all := append(slices.Clone(p.Points), bytes.Repeat([]byte{0xee}, 64)...)
	p.Points = all[:n]
	return p, all
}
