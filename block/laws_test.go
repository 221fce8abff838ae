package block_test

import (
	"bytes"
	"fmt"
	"math/rand"
	"slices"
	"testing"

	"tinder/api"
	"tinder/block"
)

// anyDisk: mostly of few sectors, at times of as many as there may be, seldom none.
func anyDisk(r *rand.Rand) []byte {
	sectors := r.Intn(5)
	if r.Intn(12) == 0 {
		sectors = r.Intn(67)
	}
	d := anyBytes(r, 512*sectors)
	if r.Intn(12) == 0 {
		return append(d, 1)
	}
	return d
}

// anyNear: a number about the ends of sectors, or any up to somewhat more than there is.
func anyNear(r *rand.Rand, size int) int {
	if r.Intn(2) == 0 {
		return 512*r.Intn(size/512+2) + r.Intn(5) - 2
	}
	return r.Intn(size+3) - 1
}

// P20.1: all calls as the model has them, at random disks, places and bytes.
func TestAgainstModel(t *testing.T) {
	r := chance()
	counts := map[api.Errno]int{}
	for range 2500 {
		d := anyDisk(r)
		at, n, sector := anyNear(r, len(d)), anyNear(r, len(d)), r.Intn(len(d)/512+4)-2
		b := anyBytes(r, max(n, 0))
		call := fmt.Sprintf("of %d: %d, %d, sector %d", len(d), at, n, sector)
		if got := block.Formed(d); got != modelFormed(len(d)) {
			t.Fatalf("Formed of %d bytes: %v", len(d), got)
		}
		got, e := block.Get(d, at, n)
		want, we := modelGet(d, at, n)
		same(t, "Get "+call, got, e, want, we)
		counts[e]++
		got, e = block.Put(d, at, b)
		want, we = modelPut(d, at, b)
		same(t, "Put "+call, got, e, want, we)
		got, e = block.Read(d, sector)
		want, we = modelRead(d, sector)
		same(t, "Read "+call, got, e, want, we)
		if r.Intn(4) != 0 {
			b = anyBytes(r, 512)
		}
		got, e = block.Write(d, sector, b)
		want, we = modelWrite(d, sector, b)
		same(t, "Write "+call, got, e, want, we)
	}
	if counts[api.OK] < 500 || counts[api.ErrArg] < 100 || counts[api.ErrDisk] < 500 {
		t.Errorf("too few of a kind: %v", counts)
	}
}

// P20.1: plans for all places and lengths at edges, and for random ones, as the model has them.
func TestPlanAgainstModel(t *testing.T) {
	r := chance()
	one := func(at, n int) {
		t.Helper()
		want, we := modelPlan(at, n)
		if got, e := block.Plan(at, n); e != we || !slices.Equal(got, want) {
			t.Fatalf("Plan(%d, %d): %v, %v; want %v, %v", at, n, got, e, want, we)
		}
	}
	for _, at := range edges(diskBytes) {
		for _, n := range edges(diskBytes) {
			one(at, n)
		}
	}
	for range 2000 {
		one(anyNear(r, diskBytes), anyNear(r, diskBytes)/(1+r.Intn(8)))
	}
}

// P20.1: all stretches of a short plan's places, byte by byte, as the model has them.
func TestPlanEachByte(t *testing.T) {
	for _, at := range []int{0, 1, 2, 300, 510, 511, 512, 513} {
		for n := range 1100 {
			want, _ := modelPlan(at, n)
			planned(t, at, n, want)
		}
	}
}

// P20.2: a disk on which bytes are put and got, one behind the other, at any places, against a list of bytes.
func TestLikeBytes(t *testing.T) {
	r := chance()
	for _, size := range sizes() {
		d := disk(size)
		bytesOf := slices.Clone(d)
		for range 400 {
			at := r.Intn(len(d) + 1)
			b := anyBytes(r, r.Intn(len(d)-at+1))
			if r.Intn(2) == 0 {
				b = b[:min(len(b), r.Intn(20))]
			}
			x, e := block.Put(d, at, b)
			if e != api.OK {
				t.Fatalf("of %d: Put(%d, of %d): %v", len(d), at, len(b), e)
			}
			d = x
			copy(bytesOf[at:], b)
			from := r.Intn(len(d) + 1)
			n := r.Intn(len(d) - from + 1)
			got, e := block.Get(d, from, n)
			same(t, fmt.Sprintf("Get(of %d, %d, %d)", len(d), from, n), got, e, bytesOf[from:from+n], api.OK)
		}
		got, e := block.Get(d, 0, len(d))
		same(t, "Get of all", got, e, bytesOf, api.OK)
		sectorsAre(t, d, bytesOf)
	}
}

// sectorsAre: that each sector of a disk has its bytes.
func sectorsAre(t *testing.T, d, want []byte) {
	t.Helper()
	for n := range len(want) / 512 {
		got, e := block.Read(d, n)
		same(t, fmt.Sprintf("Read(%d)", n), got, e, want[512*n:512*n+512], api.OK)
	}
}

// acted: bytes written from a place on by doing what Plan says: a sector that isn't read ahead begins with bytes that would be seen.
func acted(t *testing.T, d []byte, at int, b []byte) []byte {
	t.Helper()
	l, e := block.Plan(at, len(b))
	if e != api.OK {
		t.Fatalf("Plan(%d, %d): %v", at, len(b), e)
	}
	held := map[int][]byte{}
	for _, act := range l {
		if !act.Write {
			if held[act.Sector], e = block.Read(d, act.Sector); e != api.OK {
				t.Fatalf("Read(of %d, %d): %v", len(d), act.Sector, e)
			}
			continue
		}
		s := held[act.Sector]
		if s == nil {
			s = bytes.Repeat([]byte{0xbd}, 512)
		}
		for i := range s {
			if place := 512*act.Sector + i - at; place >= 0 && place < len(b) {
				s[i] = b[place]
			}
		}
		if d, e = block.Write(d, act.Sector, s); e != api.OK {
			t.Fatalf("Write(of %d, %d): %v", len(d), act.Sector, e)
		}
	}
	return d
}

// P20.2: what is put through whole sectors, as Plan says, is put, at edges and at random places.
func TestThroughSectors(t *testing.T) {
	r := chance()
	through := func(d []byte, at int, b []byte) {
		t.Helper()
		want, e := block.Put(d, at, b)
		same(t, fmt.Sprintf("through sectors of %d: %d, %d", len(d), at, len(b)), acted(t, d, at, b), e, want, api.OK)
		if !bytes.Equal(want[at:at+len(b)], b) {
			t.Fatalf("Put(%d, of %d): the bytes aren't there", at, len(b))
		}
	}
	for _, size := range []int{0, 1, 2, 3, 4, 64} {
		d := disk(size)
		for _, at := range edges(len(d)) {
			for _, n := range edges(len(d)) {
				if at+n <= len(d) {
					through(d, at, marked(n, 5))
				}
			}
		}
		for range 50 {
			at := r.Intn(len(d) + 1)
			through(d, at, anyBytes(r, r.Intn(len(d)-at+1)))
		}
	}
}

// P20.2: what was put is got, and what was got and is put again changes nothing.
func TestThereAndBack(t *testing.T) {
	r := chance()
	for range 500 {
		d := anyBytes(r, 512*r.Intn(6))
		at := r.Intn(len(d) + 1)
		n := r.Intn(len(d) - at + 1)
		b := anyBytes(r, n)
		x, _ := block.Put(d, at, b)
		got, e := block.Get(x, at, n)
		same(t, fmt.Sprintf("Get(of %d, %d, %d)", len(d), at, n), got, e, b, api.OK)
		old, _ := block.Get(d, at, n)
		back, e := block.Put(x, at, old)
		same(t, fmt.Sprintf("Put(of %d, %d, of %d) again", len(d), at, n), back, e, d, api.OK)
	}
}

// P1: nothing handed in is changed, its spare room neither, also where the bytes are a piece of the disk that they are put on.
func TestNothingChanged(t *testing.T) {
	d, all := spared(disk(4))
	b, allOfB := spared(marked(700, 3))
	was, wasB := slices.Clone(all), slices.Clone(allOfB)
	for _, at := range []int{0, 1, 511, 512, 1348, 2048, -1, 3000} {
		block.Put(d, at, b)
		block.Put(d, at, d[100:1300])
		block.Get(d, at, 700)
		block.Read(d, at/512)
		block.Write(d, at/512, b[:512])
		block.Write(d, at/512, d[512:1024])
		block.Formed(d)
	}
	if !bytes.Equal(all, was) || !bytes.Equal(allOfB, wasB) {
		t.Error("what was handed in is changed")
	}
}

// P1: bytes that are a piece of the disk are put as they were.
func TestOverlap(t *testing.T) {
	d := disk(4)
	for _, c := range [][3]int{{0, 1, 1500}, {1, 0, 1500}, {100, 700, 1200}, {700, 100, 1200}, {512, 0, 1024}, {0, 512, 1024}} {
		b := d[c[1] : c[1]+c[2]]
		got, e := block.Put(d, c[0], b)
		want, we := modelPut(d, c[0], slices.Clone(b))
		same(t, fmt.Sprintf("Put %v", c), got, e, want, we)
	}
}

// P1: what is answered is new memory: it shares none with an argument or another answer.
func TestNothingShared(t *testing.T) {
	calls := func(d, b []byte) [][]byte {
		read, _ := block.Read(d, 1)
		wrote, _ := block.Write(d, 1, b)
		got, _ := block.Get(d, 0, len(d))
		put, _ := block.Put(d, 0, b)
		none, _ := block.Put(d, 7, nil)
		return [][]byte{read, wrote, got, put, none}
	}
	d, b := disk(3), marked(512, 8)
	was, wasB := slices.Clone(d), slices.Clone(b)
	first, second := calls(d, b), calls(d, b)
	for i := range first {
		want := slices.Clone(second[i])
		for _, l := range [][]byte{first[i], first[i][:cap(first[i])]} {
			for k := range l {
				l[k] ^= 0x55
			}
		}
		if !bytes.Equal(second[i], want) || !bytes.Equal(d, was) || !bytes.Equal(b, wasB) {
			t.Fatalf("the answer %d is shared", i)
		}
	}
}

// P1: plans share nothing, and each call answers the same again.
func TestPlansApart(t *testing.T) {
	x, _ := block.Plan(510, 1030)
	y, _ := block.Plan(510, 1030)
	want := slices.Clone(y)
	for i := range x[:cap(x)] {
		x[:cap(x)][i] = api.Act{Sector: 9}
	}
	if !slices.Equal(y, want) {
		t.Error("two plans share memory")
	}
	planned(t, 510, 1030, want)
}
