package label_test

import (
	"slices"
	"strings"

	"tinder/api"
)

// The model reads a sector as 256 numbers of two bytes, tells a window as the places that are in it one by one, and an argument by trying which letter it could begin with.

func modelNumbers(b []byte) []uint16 {
	l := make([]uint16, 0, 256)
	for ; len(b) > 1; b = b[2:] {
		l = append(l, uint16(b[0])*256+uint16(b[1]))
	}
	return l
}

func modelParse(b []byte) ([8]api.Part, api.Errno) {
	var parts [8]api.Part
	if len(b) != 512 {
		return parts, api.ErrLabel
	}
	l := modelNumbers(b)
	all, blank := uint16(0), uint16(0)
	for i, n := range l {
		all ^= n
		if i >= 32 && i < 254 {
			blank |= n
		}
	}
	if all != 0 || blank != 0 || l[254] != 0xdabe {
		return parts, api.ErrLabel
	}
	for i := range 16 {
		n := uint32(l[2*i])*65536 + uint32(l[2*i+1])
		if i%2 == 0 {
			parts[i/2].Start = n
		} else {
			parts[i/2].Count = n
		}
	}
	return parts, api.OK
}

func modelMake(l [8]api.Part) ([]byte, api.Errno) {
	var numbers [256]uint16
	for k, p := range l {
		if max(p.Start, p.Count) >= 65 {
			return nil, api.ErrArg
		}
		numbers[4*k+1], numbers[4*k+3] = uint16(p.Start), uint16(p.Count)
		numbers[255] ^= uint16(p.Start) ^ uint16(p.Count)
	}
	numbers[254] = 0xdabe
	numbers[255] ^= 0xdabe
	var b []byte
	for _, n := range numbers {
		b = append(b, byte(n/256), byte(n%256))
	}
	return b, api.OK
}

func modelSelect(arg string) (int, string, api.Errno) {
	if len(arg) == 0 {
		return -1, "", api.OK
	}
	for k := range 8 {
		letter := letters[k : k+1]
		if arg == letter {
			return k, "", api.OK
		}
		if strings.HasPrefix(arg, letter+",") {
			return k, arg[2:], api.OK
		}
	}
	return 0, "", api.ErrText
}

// modelPlaces: those of the disk that are in a window, rising.
func modelPlaces(d []byte, arg string) ([]int, api.Errno) {
	if len(d)%512 != 0 || len(d) > 32768 {
		return nil, api.ErrArg
	}
	k, _, e := modelSelect(arg)
	if e != api.OK {
		return nil, e
	}
	first, last := 0, len(d)/512-1
	if k >= 0 {
		if len(d) == 0 {
			return nil, api.ErrLabel
		}
		l, e := modelParse(d[:512])
		p := l[k]
		if e != api.OK || p.Count == 0 || p.Start >= 64 || p.Count > 64 || int(p.Start+p.Count) > len(d)/512 {
			return nil, api.ErrLabel
		}
		first, last = int(p.Start), int(p.Start+p.Count)-1
	}
	places := []int{}
	for at := range d {
		if at/512 >= first && at/512 <= last {
			places = append(places, at)
		}
	}
	return places, api.OK
}

// modelStretch: the places of a stretch of a window.
func modelStretch(d []byte, arg string, at, n int) ([]int, api.Errno) {
	places, e := modelPlaces(d, arg)
	if e != api.OK {
		return nil, e
	}
	if at < 0 || n < 0 || at > len(places) {
		return nil, api.ErrDisk
	}
	if places = places[at:]; n > len(places) {
		return nil, api.ErrDisk
	}
	return places[:n], api.OK
}

func modelGet(d []byte, arg string, at, n int) ([]byte, api.Errno) {
	places, e := modelStretch(d, arg, at, n)
	var b []byte
	for _, place := range places {
		b = append(b, d[place])
	}
	return b, e
}

func modelPut(d []byte, arg string, at int, b []byte) ([]byte, api.Errno) {
	places, e := modelStretch(d, arg, at, len(b))
	if e != api.OK {
		return nil, e
	}
	d = slices.Clone(d)
	for i, place := range places {
		d[place] = b[i]
	}
	return d, api.OK
}
