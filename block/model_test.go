package block_test

import "tinder/api"

// The model keeps no sectors: a disk is a book that tells for each place what stands there, and what lies among what is counted place by place.

// book: what stands at each place of a disk.
func book(d []byte) map[int]byte {
	m := map[int]byte{}
	for at, v := range d {
		m[at] = v
	}
	return m
}

// list: the bytes of a book from a place on, as long as they are there.
func list(m map[int]byte, at, n int) ([]byte, bool) {
	l := []byte{}
	for len(l) < n {
		v, ok := m[at+len(l)]
		if !ok {
			return nil, false
		}
		l = append(l, v)
	}
	return l, true
}

func modelFormed(n int) bool {
	for sectors := range 65 {
		if n == 512*sectors {
			return true
		}
	}
	return false
}

func modelGet(d []byte, at, n int) ([]byte, api.Errno) {
	if !modelFormed(len(d)) {
		return nil, api.ErrArg
	}
	if at < 0 || n < 0 || at > len(d) || n > len(d) {
		return nil, api.ErrDisk
	}
	if l, ok := list(book(d), at, n); ok {
		return l, api.OK
	}
	return nil, api.ErrDisk
}

func modelPut(d []byte, at int, b []byte) ([]byte, api.Errno) {
	if _, e := modelGet(d, at, len(b)); e != api.OK {
		return nil, e
	}
	m := book(d)
	for i, v := range b {
		m[at+i] = v
	}
	l, _ := list(m, 0, len(d))
	return l, api.OK
}

func modelRead(d []byte, n int) ([]byte, api.Errno) {
	if !modelFormed(len(d)) {
		return nil, api.ErrArg
	}
	for k := 0; 512*k < len(d); k++ {
		if k == n {
			return modelGet(d, 512*k, 512)
		}
	}
	return nil, api.ErrDisk
}

func modelWrite(d []byte, n int, b []byte) ([]byte, api.Errno) {
	if _, e := modelRead(d, n); e == api.ErrArg || len(b) != 512 {
		return nil, api.ErrArg
	} else if e != api.OK {
		return nil, e
	}
	return modelPut(d, 512*n, b)
}

// modelPlan: each sector's places are asked one by one.
func modelPlan(at, n int) ([]api.Act, api.Errno) {
	if at < 0 || n < 0 || at > 32768 || n > 32768 || at+n > 32768 {
		return nil, api.ErrArg
	}
	var l []api.Act
	for sector := range 64 {
		among := 0
		for place := 512 * sector; place < 512*sector+512; place++ {
			if place >= at && place < at+n {
				among++
			}
		}
		if among > 0 && among < 512 {
			l = append(l, api.Act{Sector: sector})
		}
		if among > 0 {
			l = append(l, api.Act{Sector: sector, Write: true})
		}
	}
	return l, api.OK
}
