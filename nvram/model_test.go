package nvram_test

import (
	"bytes"
	"hash/fnv"

	"tinder/api"
)

// modelSum: the library has this sum of bytes; they are laid in a row for it.
func modelSum(generation byte, data []byte) uint32 {
	h := fnv.New32a()
	h.Write([]byte{generation, byte(len(data) / 256), byte(len(data) % 256)})
	h.Write(data)
	return h.Sum32()
}

// image: what a right bank of these data begins with.
func image(generation byte, data []byte) []byte {
	sum := modelSum(generation, data)
	b := []byte{0xa5, generation, byte(len(data) / 256), byte(len(data) % 256)}
	for _, place := range []uint32{1 << 24, 1 << 16, 1 << 8, 1} {
		b = append(b, byte(sum/place%256))
	}
	return append(b, data...)
}

// modelRead: tries which of all data that a bank could hold would have it begin as it does.
func modelRead(b []byte) ([]byte, bool) {
	for n := range 249 {
		if bytes.HasPrefix(b, image(b[1], b[8:8+n])) {
			return b[8 : 8+n], true
		}
	}
	return nil, false
}

// modelRecover: by counting on from number 0's generation.
func modelRecover(nv []byte) ([]byte, int, bool) {
	if len(nv) != 512 {
		return nil, 0, false
	}
	first, is := modelRead(nv[:256])
	second, also := modelRead(nv[256:])
	switch {
	case is && also && (int(nv[1])+1)%256 == int(nv[257]):
		return second, 1, true
	case is:
		return first, 0, true
	case also:
		return second, 1, true
	}
	return nil, 0, false
}

// modelPlan: the bytes of the image, but that the mark is away first.
func modelPlan(nv, data []byte) ([]api.Byte, api.Errno) {
	if len(nv) != 512 {
		return nil, api.ErrArg
	}
	if len(data) > 248 {
		return nil, api.ErrLong
	}
	start, generation := 0, 1
	if _, k, ok := modelRecover(nv); ok {
		start, generation = 256-256*k, (int(nv[256*k+1])+1)%256
	}
	b := image(byte(generation), data)
	l := []api.Byte{{At: start}}
	for i := range b {
		at := (i + 1) % len(b) // the mark's turn is the last one
		l = append(l, api.Byte{At: start + at, V: b[at]})
	}
	return l, api.OK
}

// modelApply: of each place, what was written to it last.
func modelApply(nv []byte, l []api.Byte, n int) []byte {
	b := make([]byte, len(nv))
	for at := range nv {
		b[at] = nv[at]
		for i := len(l) - 1; i >= 0; i-- {
			if i < n && l[i].At == at {
				b[at] = l[i].V
				break
			}
		}
	}
	return b
}
