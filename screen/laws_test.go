package screen_test

import (
	"bytes"
	"fmt"
	"slices"
	"testing"

	"tinder/api"
	"tinder/screen"
)

// P22.1: each place of pictures of each size up to 8, and of some great ones, as the model has it.
func TestPlaceAgainstModel(t *testing.T) {
	check := func(w, h, x, y int) {
		for quarters := -5; quarters <= 5; quarters++ {
			wx, wy := modelPlace(w, h, quarters, x, y)
			placed(t, w, h, quarters, x, y, wx, wy)
		}
	}
	for w := range 9 {
		for h := range 9 {
			for x := -1; x <= w; x++ {
				for y := -1; y <= h; y++ {
					check(w, h, x, y)
				}
			}
		}
	}
	r := chance()
	for range 300 {
		check(r.Intn(67), r.Intn(67), r.Intn(67)-1, r.Intn(67)-1)
	}
}

// P22.1: pictures of each size, turned and mirrored as the model has them.
func TestEachSizeAgainstModel(t *testing.T) {
	for w := 0; w <= 64; w++ {
		for h := 0; h <= 64; h += 1 + w%3 {
			p := told(w, h)
			for quarters := range 4 {
				got, e := screen.Turn(p, quarters)
				want, we := modelTurn(p, quarters)
				same(t, fmt.Sprintf("Turn(%d by %d, %d)", w, h, quarters), got, e, want, we)
			}
			got, e := screen.Mirror(p)
			want, we := modelMirror(p)
			same(t, fmt.Sprintf("Mirror(%d by %d)", w, h), got, e, want, we)
		}
	}
}

// P22.1: random pictures, at times none, turned and drawn by random numbers as the model has them.
func TestAgainstModel(t *testing.T) {
	r := chance()
	counts := map[api.Errno]int{}
	for range 20000 {
		p, q, quarters := anyPicture(r), anyPicture(r), anyTurn(r)
		switch r.Intn(12) {
		case 0:
			p.W++
		case 1:
			q.Points = append(q.Points, 1)
		}
		x, y := r.Intn(16)-8, r.Intn(16)-8
		if r.Intn(8) == 0 {
			x, y = r.Intn(134)-67, r.Intn(134)-67
		}
		got, e := screen.Turn(p, quarters)
		want, we := modelTurn(p, quarters)
		same(t, fmt.Sprintf("Turn(%d by %d, %d)", p.W, p.H, quarters), got, e, want, we)
		got, e = screen.Draw(p, q, x, y, quarters)
		want, we = modelDraw(p, q, x, y, quarters)
		same(t, fmt.Sprintf("Draw(%d by %d, %d by %d, %d, %d, %d)", p.W, p.H, q.W, q.H, x, y, quarters), got, e, want, we)
		counts[e]++
	}
	if counts[api.OK] < 5000 || counts[api.ErrArg] < 1000 {
		t.Errorf("too few of a kind: %v", counts)
	}
}

// P22.1: Place tells where Turn brings each point.
func TestPlaceTellsTurn(t *testing.T) {
	r := chance()
	for range 300 {
		p, quarters := anyPicture(r), anyTurn(r)
		q := turned(t, p, quarters)
		for y := range p.H {
			for x := range p.W {
				qx, qy := screen.Place(p.W, p.H, quarters, x, y)
				if q.Points[qy*q.W+qx] != p.Points[y*p.W+x] {
					t.Fatalf("%d by %d, turned by %d: the point %d, %d isn't at %d, %d", p.W, p.H, quarters, x, y, qx, qy)
				}
			}
		}
	}
}

// P22.2: four quarters are none; so many and then so many are their sum.
func TestRound(t *testing.T) {
	r := chance()
	for range 2000 {
		p, m, n := anyPicture(r), anyTurn(r)>>2, anyTurn(r)>>2
		same(t, "four quarters", turned(t, p, 4), api.OK, p, api.OK)
		same(t, "there and back", turned(t, turned(t, p, m), -m), api.OK, p, api.OK)
		both := turned(t, turned(t, p, m), n)
		same(t, fmt.Sprintf("%d and then %d quarters", m, n), both, api.OK, turned(t, p, m+n), api.OK)
		one := p
		for range (m%4 + 4) % 4 {
			one = turned(t, one, 1)
		}
		same(t, fmt.Sprintf("%d quarters one by one", m), one, api.OK, turned(t, p, m), api.OK)
	}
}

// P22.2: mirrored twice is itself; mirrored and turned to the one side is turned to the other side and mirrored.
func TestMirrored(t *testing.T) {
	r := chance()
	for range 2000 {
		p, n := anyPicture(r), anyTurn(r)
		same(t, "mirrored twice", mirrored(t, mirrored(t, p)), api.OK, p, api.OK)
		same(t, "to the one side", turned(t, mirrored(t, p), 1), api.OK, mirrored(t, turned(t, p, -1)), api.OK)
		same(t, fmt.Sprintf("by %d", n), turned(t, mirrored(t, p), n), api.OK, mirrored(t, turned(t, p, -n)), api.OK)
	}
}

// P22.2: what is turned or mirrored has as many light points as it had.
func TestLightStays(t *testing.T) {
	r := chance()
	for range 1000 {
		p, n := anyPicture(r), anyTurn(r)
		want := screen.Light(p)
		if a, b := screen.Light(turned(t, p, n)), screen.Light(mirrored(t, p)); a != want || b != want {
			t.Fatalf("%d light points; turned %d, mirrored %d", want, a, b)
		}
	}
}

// P22.3: what is drawn turned is what is turned, and then drawn.
func TestDrawn(t *testing.T) {
	r := chance()
	for range 3000 {
		p, q, n := anyPicture(r), anyPicture(r), anyTurn(r)
		x, y := r.Intn(14)-7, r.Intn(14)-7
		got, e := screen.Draw(p, q, x, y, n)
		want, we := screen.Draw(p, turned(t, q, n), x, y, 0)
		same(t, fmt.Sprintf("drawn at %d, %d, turned by %d", x, y, n), got, e, want, we)
	}
}

// P22.3: a picture drawn on a dark one of its size once turned is the turned picture.
func TestDrawnOnDark(t *testing.T) {
	r := chance()
	for range 1000 {
		p, n := anyPicture(r), anyTurn(r)
		want := turned(t, p, n)
		dark, e := screen.New(want.W, want.H)
		if e != api.OK {
			t.Fatalf("New(%d, %d): %v", want.W, want.H, e)
		}
		got, e := screen.Draw(dark, p, 0, 0, n)
		same(t, fmt.Sprintf("on a dark one, turned by %d", n), got, e, want, api.OK)
	}
}

// P1: nothing handed in is changed, its spare room neither, and no answer has memory of an argument or of another answer.
func TestNothingShared(t *testing.T) {
	r := chance()
	for range 1000 {
		p, allP := spared(anyPicture(r))
		q, allQ := spared(anyPicture(r))
		wasP, wasQ := slices.Clone(allP), slices.Clone(allQ)
		n := r.Intn(9) - 4
		calls := []func() (api.Picture, api.Errno){
			func() (api.Picture, api.Errno) { return screen.Turn(p, n) },
			func() (api.Picture, api.Errno) { return screen.Mirror(p) },
			func() (api.Picture, api.Errno) { return screen.Draw(p, q, n, -n, n) },
			func() (api.Picture, api.Errno) { return screen.Draw(p, p, n, n, n) },
			func() (api.Picture, api.Errno) { return screen.New(p.W, p.H) },
		}
		for k, call := range calls {
			a, e := call()
			if e != api.OK {
				t.Fatalf("call %d: %v", k, e)
			}
			first := slices.Clone(a.Points)
			for i := range a.Points {
				a.Points[i] ^= 0xff
			}
			_ = append(a.Points, 0x55)
			b, e := call()
			same(t, fmt.Sprintf("call %d again", k), b, e, api.Picture{W: a.W, H: a.H, Points: first}, api.OK)
		}
		screen.Light(p)
		screen.Formed(p)
		if !bytes.Equal(allP, wasP) || !bytes.Equal(allQ, wasQ) {
			t.Fatal("what was handed in is another one")
		}
	}
}
