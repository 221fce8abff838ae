package label

import "tinder/api"

// What stands where in a label behind its partitions; behind the mark are the bytes that make it cross to noughts.
const (
	blankAt = 64
	markAt  = 508
)

// The mark, which tells a label from bytes that are all noughts: those cross to noughts too.
const (
	markHigh = 0xda
	markLow  = 0xbe
)

// A cross is the exclusive or of numbers of two bytes, the highest byte first.
type cross [2]byte

func crossed(b []byte) cross {
	var c cross
	for i, v := range b {
		c[i%len(c)] ^= v
	}
	return c
}

// formed: is it a label?
func formed(b []byte) bool {
	if len(b) != api.Sector || b[markAt] != markHigh || b[markAt+1] != markLow {
		return false
	}
	return blank(b[blankAt:markAt]) && crossed(b) == cross{}
}

func blank(b []byte) bool {
	for _, v := range b {
		if v != 0 {
			return false
		}
	}
	return true
}
