package screen_test

import (
	"fmt"
	"math"
	"testing"

	"tinder/api"
	"tinder/screen"
)

// P22.1: a width and a height from 0 to 64, and as many points as their product.
func TestFormed(t *testing.T) {
	for w := -2; w <= 67; w++ {
		for h := -2; h <= 67; h++ {
			right := w >= 0 && w <= 64 && h >= 0 && h <= 64
			for n := max(w*h-1, 0); n <= w*h+1; n++ {
				p := api.Picture{W: w, H: h, Points: make([]byte, n)}
				if got := screen.Formed(p); got != (right && n == w*h) {
					t.Fatalf("Formed(%d by %d, %d points): %v", w, h, n, got)
				}
			}
		}
	}
	for _, p := range wrong() {
		if screen.Formed(p) {
			t.Errorf("Formed(%d by %d, %d points)", p.W, p.H, len(p.Points))
		}
	}
	if !screen.Formed(api.Picture{}) || !screen.Formed(api.Picture{W: 9, Points: []byte{}}) || !screen.Formed(pic("a.", ".b")) {
		t.Error("a picture is none")
	}
}

// P22.1: a dark picture of each size there is.
func TestNew(t *testing.T) {
	for w := -2; w <= 67; w++ {
		for h := -2; h <= 67; h++ {
			want, we := api.Picture{W: w, H: h}, api.OK
			if w < 0 || w > 64 || h < 0 || h > 64 {
				want, we = api.Picture{}, api.ErrArg
			} else {
				want.Points = make([]byte, w*h)
			}
			got, e := screen.New(w, h)
			same(t, fmt.Sprintf("New(%d, %d)", w, h), got, e, want, we)
		}
	}
	for _, n := range wild() {
		for _, m := range append(wild(), 0, 1, 64) {
			got, e := screen.New(n, m)
			same(t, fmt.Sprintf("New(%d, %d)", n, m), got, e, api.Picture{}, api.ErrArg)
			got, e = screen.New(m, n)
			same(t, fmt.Sprintf("New(%d, %d)", m, n), got, e, api.Picture{}, api.ErrArg)
		}
	}
}

// P22.1: where points come to, turned to either side; on a picture that is wider than high no number can stand for another one.
func TestPlace(t *testing.T) {
	for _, c := range [][7]int{
		{2, 1, 1, 1, 0, 0, 1},
		{2, 1, 1, 0, 0, 0, 0},
		{3, 2, 1, 2, 0, 1, 2},
		{7, 4, 0, 2, 1, 2, 1},
		{7, 4, 1, 2, 1, 2, 2},
		{7, 4, 2, 2, 1, 4, 2},
		{7, 4, 3, 2, 1, 1, 4},
		{7, 4, -1, 2, 1, 1, 4},
		{7, 4, -2, 2, 1, 4, 2},
		{7, 4, -3, 2, 1, 2, 2},
		{7, 4, 4, 2, 1, 2, 1},
		{7, 4, 1 << 40, 2, 1, 2, 1},
		{7, 4, math.MinInt, 2, 1, 2, 1},
		{7, 4, math.MinInt + 1, 2, 1, 2, 2},
		{7, 4, math.MaxInt, 2, 1, 1, 4},
		{7, 4, math.MaxInt - 1, 2, 1, 4, 2},
		{64, 64, 1, 63, 0, 63, 63},
		{64, 64, 3, 63, 0, 0, 0},
		{64, 1, 1, 63, 0, 0, 63},
		{1, 64, 1, 0, 0, 63, 0},
		{64, 63, 1, 0, 62, 0, 0},
		{1, 1, 5, 0, 0, 0, 0},
	} {
		placed(t, c[0], c[1], c[2], c[3], c[4], c[5], c[6])
	}
}

// P22.1: of a size that is none, and of a point that isn't there, the answers are noughts; here any other place would be told by another number.
func TestPlaceOfNone(t *testing.T) {
	outside := append(wild(), -1)
	for quarters := -5; quarters <= 5; quarters++ {
		for _, n := range outside {
			placed(t, n, 9, quarters, 3, 4, 0, 0)
			placed(t, 9, n, quarters, 3, 4, 0, 0)
			placed(t, n, n, quarters, 3, 4, 0, 0)
			placed(t, n, 9, quarters, n-1, 4, 0, 0)
			placed(t, 9, n, quarters, 3, n-1, 0, 0)
			placed(t, 64, 64, quarters, n, 4, 0, 0)
			placed(t, 64, 64, quarters, 3, n, 0, 0)
		}
		placed(t, 9, 7, quarters, 9, 4, 0, 0)
		placed(t, 9, 7, quarters, 3, 7, 0, 0)
		placed(t, 7, 9, quarters, 7, 3, 0, 0)
		placed(t, 7, 9, quarters, 4, 9, 0, 0)
		placed(t, 64, 64, quarters, 64, 3, 0, 0)
		placed(t, 64, 64, quarters, 3, 64, 0, 0)
		placed(t, 65, 64, quarters, 3, 4, 0, 0)
		placed(t, 64, 65, quarters, 3, 4, 0, 0)
		placed(t, 0, 5, quarters, 0, 4, 0, 0)
		placed(t, 5, 0, quarters, 4, 0, 0, 0)
		placed(t, 0, 0, quarters, 0, 0, 0, 0)
	}
}

// P22.1: pictures turned, each point with its byte.
func TestTurn(t *testing.T) {
	p := pic("abc", "def")
	quarters := [4]api.Picture{p, pic("da", "eb", "fc"), pic("fed", "cba"), pic("cf", "be", "ad")}
	for n, want := range quarters {
		for _, more := range []int{0, 4, -4, 400, -400, 1 << 32, math.MinInt, 1 << 62, -1 << 62} {
			got, e := screen.Turn(p, n+more)
			same(t, fmt.Sprintf("Turn(abc def, %d)", n+more), got, e, want, api.OK)
		}
	}
	got, e := screen.Turn(p, math.MaxInt)
	same(t, "Turn(abc def, the greatest)", got, e, quarters[3], api.OK)
	for n, want := range []api.Picture{pic("ab"), pic("a", "b"), pic("ba"), pic("b", "a")} {
		got, e := screen.Turn(pic("ab"), n)
		same(t, fmt.Sprintf("Turn(ab, %d)", n), got, e, want, api.OK)
	}
	every := api.Picture{W: 64, H: 4, Points: make([]byte, 256)}
	for i := range every.Points {
		every.Points[i] = byte(i)
	}
	for i, v := range turned(t, every, 1).Points {
		if want := byte(64*(3-i%4) + i/4); v != want {
			t.Fatalf("point %d of all bytes: %d; want %d", i, v, want)
		}
	}
}

// P22.1: a picture without points has a width or a height to turn all the same.
func TestEmpty(t *testing.T) {
	for _, n := range []int{0, 1, 5, 64} {
		for quarters := -4; quarters <= 4; quarters++ {
			wide, high := api.Picture{W: n}, api.Picture{H: n}
			if quarters%2 != 0 {
				wide, high = high, wide
			}
			got, e := screen.Turn(api.Picture{W: n}, quarters)
			same(t, fmt.Sprintf("Turn(%d by 0, %d)", n, quarters), got, e, wide, api.OK)
			got, e = screen.Turn(api.Picture{H: n}, quarters)
			same(t, fmt.Sprintf("Turn(0 by %d, %d)", n, quarters), got, e, high, api.OK)
			got, e = screen.Draw(pic("ab"), api.Picture{W: n}, 0, 0, quarters)
			same(t, "Draw of none", got, e, pic("ab"), api.OK)
			got, e = screen.Draw(api.Picture{W: n}, pic("ab"), 0, 0, quarters)
			same(t, "Draw on none", got, e, api.Picture{W: n}, api.OK)
		}
		got, e := screen.Mirror(api.Picture{W: n})
		same(t, "Mirror of none", got, e, api.Picture{W: n}, api.OK)
		got, e = screen.Mirror(api.Picture{H: n})
		same(t, "Mirror of none", got, e, api.Picture{H: n}, api.OK)
	}
}

// P22.1: left for right, each row for itself.
func TestMirror(t *testing.T) {
	for _, c := range [][2]api.Picture{
		{pic("abc", "def"), pic("cba", "fed")},
		{pic("abcd", "e..f"), pic("dcba", "f..e")},
		{pic("ab", "cd", "ef"), pic("ba", "dc", "fe")},
		{pic("a", "b"), pic("a", "b")},
		{pic("ab"), pic("ba")},
		{pic("a"), pic("a")},
	} {
		got, e := screen.Mirror(c[0])
		same(t, fmt.Sprintf("Mirror(%q)", c[0].Points), got, e, c[1], api.OK)
	}
}

// P22.1: what is drawn on a picture, and cut off at each of its sides.
func TestDraw(t *testing.T) {
	under := pic("abcd", "efgh", "ijk.")
	over := pic("XY", ".Z")
	for _, c := range []struct {
		x, y, quarters int
		want           api.Picture
	}{
		{0, 0, 0, pic("XYcd", "eZgh", "ijk.")},
		{0, 0, 1, pic("aXcd", "ZYgh", "ijk.")},
		{2, 1, 0, pic("abcd", "efXY", "ijkZ")},
		{2, 1, 1, pic("abcd", "efgX", "ijZY")},
		{2, 1, 2, pic("abcd", "efZh", "ijYX")},
		{2, 1, -1, pic("abcd", "efYZ", "ijX.")},
		{3, 2, 0, pic("abcd", "efgh", "ijkX")},
		{-1, 0, 0, pic("Ybcd", "Zfgh", "ijk.")},
		{0, -1, 0, pic("aZcd", "efgh", "ijk.")},
		{-1, -1, 0, pic("Zbcd", "efgh", "ijk.")},
		{-1, -1, 1, pic("Ybcd", "efgh", "ijk.")},
		{3, -1, 2, pic("abcY", "efgh", "ijk.")},
		{-1, 2, 3, pic("abcd", "efgh", "Zjk.")},
		{-2, 0, 0, under},
		{0, -2, 0, under},
		{4, 0, 0, under},
		{0, 3, 0, under},
		{64, -64, 9, under},
		{-64, 64, -9, under},
	} {
		got, e := screen.Draw(under, over, c.x, c.y, c.quarters)
		same(t, fmt.Sprintf("Draw at %d, %d, turned by %d", c.x, c.y, c.quarters), got, e, c.want, api.OK)
	}
}

// P22.1: a picture as wide and high as can be is still drawn from -64 to 64, and on the last places nothing is seen.
func TestDrawFar(t *testing.T) {
	under, _ := screen.New(64, 64)
	over := told(64, 64)
	for i := range over.Points {
		over.Points[i] |= 1
	}
	for _, at := range []int{-64, -63, -1, 0, 1, 63, 64} {
		across, e := screen.Draw(under, over, at, 0, 0)
		if want := 64 * (64 - max(at, -at)); e != api.OK || screen.Light(across) != want {
			t.Errorf("Draw at %d, 0: %d light, %v; want %d", at, screen.Light(across), e, want)
		}
		down, e := screen.Draw(under, over, 0, at, 0)
		if want := 64 * (64 - max(at, -at)); e != api.OK || screen.Light(down) != want {
			t.Errorf("Draw at 0, %d: %d light, %v; want %d", at, screen.Light(down), e, want)
		}
	}
}

// P22.1: a light point keeps its byte, whichever it is, and a dark one changes nothing.
func TestDrawBytes(t *testing.T) {
	for below := range 256 {
		for above := range 256 {
			p := api.Picture{W: 1, H: 1, Points: []byte{byte(below)}}
			q := api.Picture{W: 1, H: 1, Points: []byte{byte(above)}}
			want := q
			if above == 0 {
				want = p
			}
			got, e := screen.Draw(p, q, 0, 0, above)
			same(t, fmt.Sprintf("Draw(%d, %d)", below, above), got, e, want, api.OK)
		}
	}
}

// P22.1: what is no picture is neither turned nor mirrored nor drawn, nor drawn on.
func TestNotFormed(t *testing.T) {
	for _, p := range wrong() {
		call := fmt.Sprintf("(%d by %d, %d points)", p.W, p.H, len(p.Points))
		for quarters := -4; quarters <= 4; quarters++ {
			got, e := screen.Turn(p, quarters)
			same(t, "Turn"+call, got, e, api.Picture{}, api.ErrArg)
			got, e = screen.Draw(p, pic("a"), 0, 0, quarters)
			same(t, "Draw on "+call, got, e, api.Picture{}, api.ErrArg)
			got, e = screen.Draw(pic("a"), p, 0, 0, quarters)
			same(t, "Draw of "+call, got, e, api.Picture{}, api.ErrArg)
		}
		got, e := screen.Mirror(p)
		same(t, "Mirror"+call, got, e, api.Picture{}, api.ErrArg)
	}
}

// P22.1: a picture is drawn from -64 to 64, and nowhere else.
func TestDrawWhere(t *testing.T) {
	under := pic("ab")
	for n := -70; n <= 70; n++ {
		want, we := under, api.OK
		if n < -64 || n > 64 {
			want, we = api.Picture{}, api.ErrArg
		}
		got, e := screen.Draw(under, pic("."), n, 0, 0)
		same(t, fmt.Sprintf("Draw at %d, 0", n), got, e, want, we)
		got, e = screen.Draw(under, pic("."), 0, n, 0)
		same(t, fmt.Sprintf("Draw at 0, %d", n), got, e, want, we)
	}
	for _, n := range wild() {
		for _, m := range append(wild(), 0, -64, 64) {
			got, e := screen.Draw(under, pic("X"), n, m, 0)
			same(t, fmt.Sprintf("Draw at %d, %d", n, m), got, e, api.Picture{}, api.ErrArg)
			got, e = screen.Draw(under, pic("X"), m, n, 0)
			same(t, fmt.Sprintf("Draw at %d, %d", m, n), got, e, api.Picture{}, api.ErrArg)
		}
	}
}

// P22.1: light points are counted in any row of them, of a picture or not.
func TestLight(t *testing.T) {
	every := make([]byte, 256)
	for i := range every {
		every[i] = byte(i)
	}
	for _, c := range []struct {
		p    api.Picture
		want int
	}{
		{api.Picture{}, 0},
		{api.Picture{W: 3, H: 3}, 0},
		{pic("a.", ".."), 1},
		{pic("ab", "cd"), 4},
		{pic("..", ".."), 0},
		{api.Picture{Points: every}, 255},
		{api.Picture{W: -1, H: 99, Points: every}, 255},
		{api.Picture{W: 1, H: 1, Points: []byte{0, 7, 0xff}}, 2},
		{api.Picture{W: 64, H: 64, Points: make([]byte, 5000)}, 0},
		{api.Picture{Points: []byte(fmt.Sprintf("%70000d", 1))}, 70000},
	} {
		if got := screen.Light(c.p); got != c.want {
			t.Errorf("Light(%.20x): %d; want %d", c.p.Points, got, c.want)
		}
	}
}
