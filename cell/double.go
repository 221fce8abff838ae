package cell

import (
	"math"

	"tinder/api"
)

// Divide answers quotient and rest of two cells.
func Divide(op int, a, b uint32) (q, r uint32, e api.Errno) {
	if op != opDivideFloored && op != opDivideCells {
		return 0, 0, api.ErrNone
	}
	if b == 0 {
		return 0, 0, api.ErrZero
	}
	if op == opDivideCells {
		return a / b, a % b, api.OK
	}
	// 64 bits hold -2^31 by -1 as well; its quotient is cut to a cell last.
	quotient, rest := floored(int64(int32(a)), int64(int32(b)))
	return uint32(quotient), uint32(rest), api.OK
}

// Times answers the product of two cells as a double.
func Times(a, b uint32) (low, high uint32) {
	product := doubleOf(uint64(a) * uint64(b))
	return product[0], product[1]
}

// Wide answers quotient and rest of a double and a cell.
func Wide(op int, low, high, d uint32) (q, r uint32, e api.Errno) {
	if op != opWideCells && op != opWideSymmetric && op != opWideFloored {
		return 0, 0, api.ErrNone
	}
	if d == 0 {
		return 0, 0, api.ErrZero
	}
	n := valueOf([2]uint32{low, high})
	switch op {
	case opWideCells:
		return fittingCells(n/uint64(d), n%uint64(d))
	case opWideSymmetric:
		return fittingSigned(symmetric(int64(n), int64(int32(d))))
	}
	return fittingSigned(floored(int64(n), int64(int32(d))))
}

// Double answers the sum or the difference of two doubles.
func Double(op int, a, b [2]uint32) ([2]uint32, api.Errno) {
	switch op {
	case opDoublePlus:
		return doubleOf(valueOf(a) + valueOf(b)), api.OK
	case opDoubleMinus:
		return doubleOf(valueOf(a) - valueOf(b)), api.OK
	}
	return [2]uint32{}, api.ErrNone
}

func valueOf(double [2]uint32) uint64 {
	return uint64(double[0]) | uint64(double[1])<<32
}

func doubleOf(n uint64) [2]uint32 {
	return [2]uint32{uint32(n), uint32(n >> 32)}
}

// symmetric of -2^63 by -1 wraps round to -2^63, which is as far from a cell as the true quotient is.
func symmetric(n, d int64) (q, r int64) {
	return n / d, n % d
}

func floored(n, d int64) (q, r int64) {
	q, r = symmetric(n, d)
	if r != 0 && (r < 0) != (d < 0) {
		return q - 1, r + d
	}
	return q, r
}

func fittingCells(q, r uint64) (uint32, uint32, api.Errno) {
	if q > math.MaxUint32 {
		return 0, 0, api.ErrRange
	}
	return uint32(q), uint32(r), api.OK
}

func fittingSigned(q, r int64) (uint32, uint32, api.Errno) {
	if q < math.MinInt32 || q > math.MaxInt32 {
		return 0, 0, api.ErrRange
	}
	return uint32(q), uint32(r), api.OK
}
