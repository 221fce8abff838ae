package inner

// The FCode numbers of words that reckon, but take or leave other cells than layer 1's Bin and Un.
const (
	opDivide      = 0x2a // /mod
	opDivideCells = 0x2b // u/mod
	opSplit       = 0x7e // lbsplit
	opJoin        = 0x7f // bljoin
	opTimes       = 0xd4 // um*
	opWideCells   = 0xd5 // um/mod
	opDoublePlus  = 0xd8 // d+
	opDoubleMinus = 0xd9 // d-
	opSymmetric   = 0x1d5
	opFloored     = 0x2d5
)

// The FCode numbers of words that are numbers.
const (
	opMinusOne = 0xa4
	opNought   = 0xa5
	opOne      = 0xa6
	opTwo      = 0xa7
	opThree    = 0xa8
	opBlank    = 0xa9 // bl
	opHere     = 0xad
	opMySelf   = 0x203
	opMyParent = 0x20a
)

// The FCode numbers of words of the return stack.
const (
	opIndex    = 0x19 // i
	opOuter    = 0x1a // j
	opToRet    = 0x30 // >r
	opFromRet  = 0x31 // r>
	opFetchRet = 0x32 // r@
	opUnloop   = 0x89
)

// The FCode numbers of words that lead to other words, or out of them.
const (
	opExecute    = 0x1d
	opCallMethod = 0x20e
	opCatch      = 0x217
	opThrow      = 0x218
)

// The FCode numbers of words of the memory.
const (
	opPlusStore = 0x6c // +!
	opFetch     = 0x6d // @
	opFetchPair = 0x6f // w@
	opFetchByte = 0x71 // c@
	opStore     = 0x72 // !
	opStorePair = 0x74 // w!
	opStoreByte = 0x75 // c!
	opMove      = 0x78
	opFill      = 0x79
	opCompare   = 0x7a // comp
	opAllot     = 0x8b // alloc-mem
)

// The FCode numbers of words of the console.
const (
	opEmit     = 0x8f
	opType     = 0x90
	opNewLine  = 0x92 // cr
	opShow     = 0x9b // u.
	opShowSign = 0x9d // .
	opSetBase  = 0xa0 // base!
)

// The FCode numbers of words of properties and devices.
const (
	opProperty     = 0x110
	opEncodeInt    = 0x111
	opEncodePlus   = 0x112 // encode+
	opEncodeText   = 0x114 // encode-string
	opNewDevice    = 0x11f
	opFinishDevice = 0x127
	opGetProperty  = 0x21a // get-my-property
	opDecodeInt    = 0x21b
	opDecodeText   = 0x21c // decode-string
	opDropProperty = 0x21e // delete-property
)
