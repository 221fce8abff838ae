package label_test

import (
	"bytes"
	"fmt"
	"math/rand"
	"slices"
	"strings"
	"testing"

	"tinder/api"
	"tinder/label"
)

// anyParts: mostly such as fit on a small disk, at times empty ones, seldom ones of any numbers.
func anyParts(r *rand.Rand) [8]api.Part {
	var l [8]api.Part
	for k := range l {
		switch r.Intn(8) {
		case 0:
		case 1:
			l[k] = api.Part{Start: uint32(r.Intn(67)), Count: uint32(r.Intn(67))}
		case 2:
			if r.Intn(4) == 0 {
				l[k] = api.Part{Start: r.Uint32(), Count: r.Uint32()}
			}
		default:
			l[k] = api.Part{Start: uint32(r.Intn(6)), Count: uint32(1 + r.Intn(4))}
		}
	}
	return l
}

func anyArg(r *rand.Rand) string {
	switch r.Intn(12) {
	case 0:
		return ""
	case 1:
		return string(anyBytes(r, r.Intn(4)))
	case 2:
		return letters[r.Intn(8):][:1] + "," + string(anyBytes(r, r.Intn(5)))
	default:
		return letters[r.Intn(8):][:1]
	}
}

// anyDisk: mostly with a label, at times with one that is nearly right, with none, or no disk.
func anyDisk(r *rand.Rand) []byte {
	sectors := r.Intn(10)
	if r.Intn(12) == 0 {
		sectors = r.Intn(67)
	}
	d := anyBytes(r, 512*sectors)
	if r.Intn(12) != 0 {
		copy(d, written(anyParts(r)))
	}
	if r.Intn(12) == 0 && len(d) > 0 {
		d[r.Intn(512)] ^= byte(1 << r.Intn(8))
	}
	if r.Intn(16) == 0 {
		d = append(d, 1)
	}
	return d
}

// anyNear: a number about the ends of sectors, or any up to somewhat more than there is.
func anyNear(r *rand.Rand, size int) int {
	if r.Intn(2) == 0 {
		return 512*r.Intn(size/512+2) + r.Intn(5) - 2
	}
	return r.Intn(size+3) - 1
}

// P21.1: all calls that take a disk as the model has them, at random disks, arguments and stretches.
func TestAgainstModel(t *testing.T) {
	r := chance()
	counts := map[api.Errno]int{}
	for range 4000 {
		d, arg := anyDisk(r), anyArg(r)
		places, we := modelPlaces(d, arg)
		size := len(places)
		begin := 0
		if size > 0 {
			begin = places[0]
		}
		windowed(t, d, arg, begin, size, we)
		at, n := anyNear(r, size), anyNear(r, size)
		b := anyBytes(r, max(n, 0))
		call := fmt.Sprintf("(of %d, %q, %d, %d)", len(d), arg, at, n)
		got, e := label.Get(d, arg, at, n)
		want, we := modelGet(d, arg, at, n)
		same(t, "Get"+call, got, e, want, we)
		counts[e]++
		got, e = label.Put(d, arg, at, b)
		want, we = modelPut(d, arg, at, b)
		same(t, "Put"+call, got, e, want, we)
	}
	for _, e := range []api.Errno{api.OK, api.ErrArg, api.ErrText, api.ErrLabel, api.ErrDisk} {
		if counts[e] < 100 {
			t.Errorf("too few of %v: %d", e, counts[e])
		}
	}
}

// P21.1: labels made and parsed as the model has them, of random numbers, with some bytes turned, at times so that all cross to noughts again.
func TestLabelsAgainstModel(t *testing.T) {
	r := chance()
	counts := map[api.Errno]int{}
	for range 20000 {
		l := anyParts(r)
		got, e := label.Make(l)
		want, we := modelMake(l)
		same(t, fmt.Sprintf("Make(%v)", l), got, e, want, we)
		b := written(l)
		for range r.Intn(3) {
			b[r.Intn(70)] ^= byte(r.Intn(256))
		}
		if r.Intn(4) != 0 {
			b = crossing(b)
		}
		if r.Intn(8) == 0 {
			b = b[:r.Intn(513)]
		}
		parts, we := modelParse(b)
		parsed(t, fmt.Sprintf("Parse(%x)", b), b, parts, we)
		counts[we]++
	}
	if counts[api.OK] < 2000 || counts[api.ErrLabel] < 2000 {
		t.Errorf("too few of a kind: %v", counts)
	}
}

// P21.1: arguments of few signs, all of them, and any bytes, as the model has them.
func TestSelectAgainstModel(t *testing.T) {
	const signs = "ahi,A \x00\xff"
	short := []string{""}
	for begin := 0; len(short[begin]) < 5; begin++ {
		for _, x := range []byte(signs) {
			short = append(short, short[begin]+string([]byte{x}))
		}
	}
	r := chance()
	for range 5000 {
		short = append(short, string(anyBytes(r, r.Intn(6))), anyArg(r))
	}
	for _, arg := range short {
		k, rest, we := modelSelect(arg)
		selected(t, arg, k, rest, we)
	}
}

// P21.2: what was made is parsed as the same partitions, and stands on a disk as such.
func TestThereAndBack(t *testing.T) {
	r := chance()
	for range 5000 {
		var l [8]api.Part
		for k := range l {
			l[k] = api.Part{Start: uint32(r.Intn(65)), Count: uint32(r.Intn(65))}
		}
		b, e := label.Make(l)
		if e != api.OK {
			t.Fatalf("Make(%v): %v", l, e)
		}
		parsed(t, fmt.Sprintf("Parse of Make(%v)", l), b, l, api.OK)
		d, e := label.Put(make([]byte, 512*64), "", 0, b)
		if e != api.OK {
			t.Fatalf("Put: %v", e)
		}
		for k, p := range l {
			if p.Count > 0 && p.Start+p.Count <= 64 {
				windowed(t, d, letters[k:k+1], int(512*p.Start), int(512*p.Count), api.OK)
			} else {
				windowed(t, d, letters[k:k+1], 0, 0, api.ErrLabel)
			}
		}
	}
}

// P21.2: a label of which one byte, at any place, is any other one is none.
func TestOneByte(t *testing.T) {
	made, _ := label.Make(parts(1, 2, 3, 4, 64, 64, 7, 0))
	for _, right := range [][]byte{made, written(parts()), written(parts(slices.Repeat([]uint32{1<<32 - 1}, 15)...))} {
		b := slices.Clone(right)
		for at := range b {
			for x := range 256 {
				if b[at] = byte(x); b[at] != right[at] {
					parsed(t, fmt.Sprintf("Parse(%d is %d)", at, x), b, parts(), api.ErrLabel)
				}
			}
			b[at] = right[at]
		}
		if _, e := label.Parse(b); e != api.OK {
			t.Fatalf("Parse of the label itself: %v", e)
		}
	}
}

// P21.3: bytes put into any windows, one behind the other, against lists of bytes, one a partition; no byte outside of them changes.
func TestApart(t *testing.T) {
	l := parts(1, 2, 3, 1, 4, 5, 12, 1, 15, 1)
	d := disk(16, l)
	first := slices.Clone(d)
	var lists [5][]byte
	for k := range lists {
		lists[k] = slices.Clone(d[512*l[k].Start : 512*(l[k].Start+l[k].Count)])
	}
	r := chance()
	for range 3000 {
		k := r.Intn(5)
		size := len(lists[k])
		at := r.Intn(size + 1)
		b := anyBytes(r, r.Intn(size-at+1))
		x, e := label.Put(d, letters[k:k+1]+",any", at, b)
		if e != api.OK {
			t.Fatalf("Put(%d, %d, of %d): %v", k, at, len(b), e)
		}
		copy(lists[k][at:], b)
		d = x
		apart(t, d, first, lists[:])
	}
}

// apart: that each partition's bytes are those of its list, and all others what they were at first.
func apart(t *testing.T, d, first []byte, lists [][]byte) {
	t.Helper()
	for k, list := range lists {
		got, e := label.Get(d, letters[k:k+1], 0, len(list))
		same(t, "Get of all of "+letters[k:k+1], got, e, list, api.OK)
	}
	outside := [][2]int{{0, 512}, {9 * 512, 12 * 512}, {13 * 512, 15 * 512}}
	if len(d) != len(first) {
		t.Fatalf("the disk has %d bytes", len(d))
	}
	for _, o := range outside {
		if !bytes.Equal(d[o[0]:o[1]], first[o[0]:o[1]]) {
			t.Fatalf("bytes outside, from %d to %d, changed", o[0], o[1])
		}
	}
}

// P21.3: of random partitions, those without a sector in common with the one that was put into keep what they have, and no byte outside of it changes.
func TestApartAny(t *testing.T) {
	r := chance()
	seen := 0
	for range 3000 {
		l := anyParts(r)
		d := disk(8, l)
		k, other := r.Intn(8), r.Intn(8)
		begin, size, e := label.Window(d, letters[k:k+1])
		// A partition that has sector 0 may put another label there.
		if e != api.OK || begin == 0 {
			continue
		}
		at := r.Intn(size)
		x, e := label.Put(d, letters[k:k+1], at, anyBytes(r, 1+r.Intn(size-at)))
		if e != api.OK || len(x) != len(d) {
			t.Fatalf("Put: %d bytes, %v", len(x), e)
		}
		if !bytes.Equal(x[:begin], d[:begin]) || !bytes.Equal(x[begin+size:], d[begin+size:]) {
			t.Fatalf("Put into %v changed bytes outside of it", l[k])
		}
		p, q := l[k], l[other]
		if _, _, e := label.Window(d, letters[other:other+1]); e == api.OK && (p.Start+p.Count <= q.Start || q.Start+q.Count <= p.Start) {
			seen++
			was, _ := label.Get(d, letters[other:other+1], 0, int(512*q.Count))
			got, e := label.Get(x, letters[other:other+1], 0, int(512*q.Count))
			same(t, "Get of the other", got, e, was, api.OK)
		}
	}
	if seen < 100 {
		t.Errorf("too few pairs: %d", seen)
	}
}

// P1: nothing handed in is changed, the room behind it neither, and what is answered shares nothing with it.
func TestNothingShared(t *testing.T) {
	d, all := spared(disk(8, parts(1, 1, 2, 3)))
	b, more := spared([]byte{1, 2, 3})
	was, wasMore := slices.Clone(all), slices.Clone(more)
	var answers [][]byte
	for _, arg := range []string{"", "a", "b", "b,x"} {
		for _, n := range []int{0, 1, 512} {
			got, _ := label.Get(d, arg, 0, n)
			again, _ := label.Get(d, arg, 0, n)
			answers = append(answers, got, again)
		}
		put, _ := label.Put(d, arg, 7, b)
		again, _ := label.Put(d, arg, 7, b)
		none, _ := label.Put(d, arg, 7, nil)
		answers = append(answers, put, again, none)
	}
	made, _ := label.Make(parts(1, 2))
	again, _ := label.Make(parts(1, 2))
	label.Parse(d[:512])
	answers = append(answers, made, again)
	unshared(t, answers)
	if !bytes.Equal(all, was) || !bytes.Equal(more, wasMore) {
		t.Error("what was handed in changed")
	}
}

// unshared: that writing into each answer, and into its room, changes no other one.
func unshared(t *testing.T, answers [][]byte) {
	t.Helper()
	var copies [][]byte
	for _, a := range answers {
		copies = append(copies, slices.Clone(a))
	}
	for i, a := range answers {
		if !bytes.Equal(a, copies[i]) {
			t.Fatalf("the answer %d changed with another one", i)
		}
		room := a[:cap(a)]
		for j := range room {
			room[j] ^= 0xff
		}
	}
}

// P1: bytes put that are a piece of the disk itself are those that it had.
func TestPutItself(t *testing.T) {
	d := disk(8, parts(1, 1, 2, 3))
	for _, n := range []int{1, 511, 512, 700, 1536} {
		for _, from := range []int{0, 1, 700, 1024, 1025, 2000} {
			b := d[from : from+n]
			want := slices.Concat(d[:1024], b, d[1024+n:])
			got, e := label.Put(d, "b", 0, b)
			same(t, fmt.Sprintf("Put(%d bytes from %d)", n, from), got, e, want, api.OK)
		}
	}
}

// P1: calls hang on their arguments alone, however often and in what order they are done.
func TestAgain(t *testing.T) {
	d := disk(8, parts(1, 1, 2, 3))
	for range 3 {
		windowed(t, d, "b", 1024, 1536, api.OK)
		windowed(t, d, "", 0, 4096, api.OK)
		windowed(t, d, "c", 0, 0, api.ErrLabel)
		selected(t, strings.Clone("b,x"), 1, "x", api.OK)
		parsed(t, "Parse", d[:512], parts(1, 1, 2, 3), api.OK)
		made(t, parts(1, 1), true)
		made(t, parts(1, 65), false)
	}
}
