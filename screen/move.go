package screen

import "tinder/api"

// most is how wide and how high a picture may be, and how far from another one's corner it may be drawn.
const most = 64

func sized(w, h int) bool { return w >= 0 && w <= most && h >= 0 && h <= most }

func near(n int) bool { return n >= -most && n <= most }

// within: has a picture of that size such a point?
func within(w, h, x, y int) bool { return x >= 0 && x < w && y >= 0 && y < h }

// A move tells where a point comes to.
type move func(x, y int) (int, int)

// moved: the picture of that size to which p's points come.
func moved(p api.Picture, w, h int, to move) api.Picture {
	q := api.Picture{W: w, H: h, Points: make([]byte, len(p.Points))}
	for i, v := range p.Points {
		x, y := to(i%p.W, i/p.W)
		q.Points[y*w+x] = v
	}
	return q
}

func turnedSize(w, h, quarters int) (int, int) {
	if quarters%2 != 0 {
		return h, w
	}
	return w, h
}

// turning: rows are told downwards, so that a quarter brings what was on top to the right when a point round the middle is multiplied by i.
func turning(w, h, quarters int) move {
	from, to := middle(w, h), middle(turnedSize(w, h, quarters))
	power := powerOfI(quarters)
	return func(x, y int) (int, int) {
		return columnRow((point(x, y)-from)*power + to)
	}
}

func mirroring(w, h int) move {
	mid := middle(w, h)
	return func(x, y int) (int, int) {
		z := point(x, y) - mid
		return columnRow(complex(-real(z), imag(z)) + mid)
	}
}

// powerOfI: the fourth power is 1, so that the two lowest bits tell of a number below 0 too.
func powerOfI(n int) complex128 {
	power := complex128(1)
	for range n & 3 {
		power *= 1i
	}
	return power
}

func point(x, y int) complex128 { return complex(float64(x), float64(y)) }

// middle: it lies on a point or halfway between two, so that no number here is rounded.
func middle(w, h int) complex128 { return point(w-1, h-1) / 2 }

func columnRow(z complex128) (int, int) { return int(real(z)), int(imag(z)) }
