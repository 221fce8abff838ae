// Package cell is layer 1: arithmetic of cells. See shared/doc/01-cell.md.
package cell

import "tinder/api"

// Bin answers what op makes of two cells.
func Bin(op int, a, b uint32) (uint32, api.Errno) {
	switch op {
	case opQuotient:
		q, _, e := Divide(opDivideFloored, a, b)
		return q, e
	case opRest:
		_, r, e := Divide(opDivideFloored, a, b)
		return r, e
	}
	if x, known := combined(op, a, b); known {
		return x, api.OK
	}
	if holds, known := compared(op, a, b); known {
		return flag(holds), api.OK
	}
	return 0, api.ErrNone
}

// Un answers what op makes of one cell.
func Un(op int, a uint32) (uint32, api.Errno) {
	if x, known := changed(op, a); known {
		return x, api.OK
	}
	if holds, known := heldAgainstZero(op, int32(a)); known {
		return flag(holds), api.OK
	}
	return 0, api.ErrNone
}

// Join answers the cell of the lowest bytes of four, the first one the lowest.
func Join(parts [4]uint32) uint32 {
	var a uint32
	for i, part := range parts {
		a |= (part & 0xff) << (8 * i)
	}
	return a
}

// Split answers a's four bytes, the lowest first.
func Split(a uint32) [4]uint32 {
	var parts [4]uint32
	for i := range parts {
		parts[i] = (a >> (8 * i)) & 0xff
	}
	return parts
}

// Signed answers the signed value.
func Signed(a uint32) int { return int(int32(a)) }

// combined leans on Go's own shifts: from 32 bits on they leave 0, or of a sign that is set all bits, as the layer asks.
func combined(op int, a, b uint32) (x uint32, known bool) {
	switch op {
	case opPlus:
		return a + b, true
	case opMinus:
		return a - b, true
	case opTimes:
		return a * b, true
	case opAnd:
		return a & b, true
	case opOr:
		return a | b, true
	case opXor:
		return a ^ b, true
	case opLeft:
		return a << b, true
	case opRight:
		return a >> b, true
	case opSignedRight:
		return uint32(int32(a) >> b), true
	case opLesser:
		return uint32(min(int32(a), int32(b))), true
	case opGreater:
		return uint32(max(int32(a), int32(b))), true
	}
	return 0, false
}

func compared(op int, a, b uint32) (holds, known bool) {
	switch op {
	case opIsBelow:
		return int32(a) < int32(b), true
	case opIsAbove:
		return int32(a) > int32(b), true
	case opIsAtLeast:
		return int32(a) >= int32(b), true
	case opIsAtMost:
		return int32(a) <= int32(b), true
	case opIsSame:
		return a == b, true
	case opIsOther:
		return a != b, true
	case opCellAbove:
		return a > b, true
	case opCellAtMost:
		return a <= b, true
	case opCellBelow:
		return a < b, true
	case opCellAtLeast:
		return a >= b, true
	}
	return false, false
}

func changed(op int, a uint32) (x uint32, known bool) {
	switch op {
	case opTurned:
		return ^a, true
	case opNegated:
		return -a, true
	case opUnsigned:
		return withoutSign(a), true
	case opSignedHalf:
		return uint32(int32(a) >> 1), true
	case opHalf:
		return a >> 1, true
	case opTwice:
		return a << 1, true
	case opSwapped:
		return (a&0xff)<<8 | (a>>8)&0xff, true
	case opGreatLetter:
		return great(a), true
	case opSmallLetter:
		return small(a), true
	}
	return 0, false
}

func heldAgainstZero(op int, a int32) (holds, known bool) {
	switch op {
	case opIsZero:
		return a == 0, true
	case opIsNotZero:
		return a != 0, true
	case opIsNegative:
		return a < 0, true
	case opIsNotAbove:
		return a <= 0, true
	case opIsPositive:
		return a > 0, true
	case opIsNotBelow:
		return a >= 0, true
	}
	return false, false
}

func flag(holds bool) uint32 {
	if holds {
		return 1<<32 - 1
	}
	return 0
}

// withoutSign negates the cell, not the signed value, so that -2^31 comes to 2^31.
func withoutSign(a uint32) uint32 {
	if int32(a) < 0 {
		return -a
	}
	return a
}

func great(a uint32) uint32 {
	if a >= 'a' && a <= 'z' {
		return a - 'a' + 'A'
	}
	return a
}

func small(a uint32) uint32 {
	if a >= 'A' && a <= 'Z' {
		return a - 'A' + 'a'
	}
	return a
}
