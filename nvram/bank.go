package nvram

import (
	"slices"

	"tinder/api"
	"tinder/prop"
)

// What stands where in a bank.
const (
	markAt       = 0
	generationAt = 1
	lengthAt     = 2
	sumAt        = 4
	dataAt       = 8
)

const (
	mark     = 0xa5 // the mark of a bank that is valid
	mostData = api.Bank - dataAt
	none     = -1 // the number of a bank where there is none
)

// A bank is a value of its own: what is asked of it shares nothing with the NVRAM that it was read from.
type bank [api.Bank]byte

// filled: the bank that has these data, which must not be too many.
func filled(generation byte, data []byte) bank {
	var b bank
	b[markAt] = mark
	b[generationAt] = generation
	b[lengthAt], b[lengthAt+1] = byte(len(data)>>8), byte(len(data))
	copy(b[sumAt:], prop.EncodeInt(Sum(generation, data)))
	copy(b[dataAt:], data)
	return b
}

// length: how many bytes its data have. A bank that is not right may tell more than there is room for.
func (b bank) length() int { return int(b[lengthAt])<<8 | int(b[lengthAt+1]) }

// data: of a bank whose length there is room for.
func (b bank) data() []byte { return slices.Clone(b[dataAt : dataAt+b.length()]) }

func (b bank) right() bool {
	if b[markAt] != mark || b.length() > mostData {
		return false
	}
	sum, _, _ := prop.DecodeInt(b[sumAt:dataAt])
	return sum == Sum(b[generationAt], b.data())
}

// A pair is both banks of the NVRAM.
type pair [api.NVRAM / api.Bank]bank

// banksOf: those of an NVRAM, which must have all its bytes.
func banksOf(nv []byte) pair {
	var p pair
	for k := range p {
		copy(p[k][:], nv[k*api.Bank:])
	}
	return p
}

// counting: the number of the bank that counts.
func (p pair) counting() int {
	first, second := p[0].right(), p[1].right()
	if second && (!first || p[1][generationAt] == p[0][generationAt]+1) {
		return 1
	}
	if first {
		return 0
	}
	return none
}

// free: the number of the bank into which data may be written, and the generation that they get. A byte wraps round at just the number that generations are counted by.
func (p pair) free() (int, byte) {
	k := p.counting()
	if k == none {
		return 0, firstGeneration
	}
	return 1 - k, p[k][generationAt] + 1
}
