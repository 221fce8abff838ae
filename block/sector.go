package block

import "tinder/api"

const mostBytes = api.Sector * api.MaxDisk

// A sector is a value of its own: what is laid into it is on no disk till the whole of it is written.
type sector [api.Sector]byte

// load: as it stands at the beginning of these bytes.
func (s *sector) load(b []byte) { copy(s[:], b) }

// lay: those of the bytes that fall into it, the first of which has the place from. It is below 0 where they begin in a sector ahead.
func (s *sector) lay(b []byte, from int) {
	if from < 0 {
		copy(s[:], b[-from:])
		return
	}
	copy(s[from:], b)
}

// has: is there such a sector?
func has(d []byte, n int) bool { return lies(n, 1, len(d)/api.Sector) }

// lies: is the stretch among so many bytes? No sum is made, since it could wrap round; a difference of what isn't below 0 can't.
func lies(at, n, size int) bool {
	return at >= 0 && n >= 0 && n <= size-at
}
