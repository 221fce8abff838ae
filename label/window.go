package label

import (
	"tinder/api"
	"tinder/block"
)

// whole: the number that stands for the whole disk, where a partition's would.
const whole = -1

// window: that of a partition, of a disk that is one.
func window(d []byte, k int) (int, int, api.Errno) {
	// Where there is no sector 0, no bytes are read, and they are no label either.
	b, _ := block.Read(d, 0)
	l, e := Parse(b)
	if e != api.OK {
		return 0, 0, e
	}
	p := l[k]
	// A label may have any numbers: only a wider sum of two can't wrap round.
	if p.Count == 0 || uint64(p.Start)+uint64(p.Count) > uint64(len(d)/api.Sector) {
		return 0, 0, api.ErrLabel
	}
	return int(p.Start) * api.Sector, int(p.Count) * api.Sector, api.OK
}

// place: where on the disk a stretch of a window begins. It must lie in the window, not only in the disk.
func place(d []byte, arg string, at, n int) (int, api.Errno) {
	begin, size, e := Window(d, arg)
	if e != api.OK {
		return 0, e
	}
	// No sum is made, since it could wrap round; a difference of what isn't below 0 can't.
	if at < 0 || n < 0 || n > size-at {
		return 0, api.ErrDisk
	}
	return begin + at, api.OK
}
