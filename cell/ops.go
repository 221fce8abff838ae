package cell

// The FCode numbers of what two cells come to.
const (
	opPlus          = 0x1e
	opMinus         = 0x1f
	opTimes         = 0x20
	opQuotient      = 0x21
	opRest          = 0x22
	opAnd           = 0x23
	opOr            = 0x24
	opXor           = 0x25
	opLeft          = 0x27
	opRight         = 0x28
	opSignedRight   = 0x29
	opLesser        = 0x2e
	opGreater       = 0x2f
	opIsBelow       = 0x3a
	opIsAbove       = 0x3b
	opIsSame        = 0x3c
	opIsOther       = 0x3d
	opCellAbove     = 0x3e
	opCellAtMost    = 0x3f
	opCellBelow     = 0x40
	opCellAtLeast   = 0x41
	opIsAtLeast     = 0x42
	opIsAtMost      = 0x43
	opDivideFloored = 0x2a
	opDivideCells   = 0x2b
)

// The FCode numbers of what one cell comes to.
const (
	opTurned      = 0x26
	opNegated     = 0x2c
	opUnsigned    = 0x2d
	opIsZero      = 0x34
	opIsNotZero   = 0x35
	opIsNegative  = 0x36
	opIsNotAbove  = 0x37
	opIsPositive  = 0x38
	opIsNotBelow  = 0x39
	opSignedHalf  = 0x57
	opHalf        = 0x58
	opTwice       = 0x59
	opSwapped     = 0x80
	opGreatLetter = 0x81
	opSmallLetter = 0x82
)

// The FCode numbers of what doubles come to.
const (
	opWideCells     = 0xd5
	opWideSymmetric = 0x1d5
	opWideFloored   = 0x2d5
	opDoublePlus    = 0xd8
	opDoubleMinus   = 0xd9
)
