package block_test

import (
	"bytes"
	"fmt"
	"slices"
	"testing"

	"tinder/api"
	"tinder/block"
)

// P20.1: disks of each number of sectors, and lengths that none has.
func TestFormed(t *testing.T) {
	for n := range diskBytes + 2*sectorBytes {
		want := n%512 == 0 && n/512 <= 64
		if got := block.Formed(make([]byte, n)); got != want {
			t.Fatalf("Formed of %d bytes: %v", n, got)
		}
	}
	if !block.Formed(nil) || !block.Formed([]byte{}) || !block.Formed(bytes.Repeat([]byte{0xff}, diskBytes)) {
		t.Error("Formed: a disk is none")
	}
}

// P20.1: a length counts, not the room behind it.
func TestFormedSpare(t *testing.T) {
	all := make([]byte, 2*diskBytes)
	if !block.Formed(all[:diskBytes]) || block.Formed(all[:1:512]) {
		t.Error("Formed goes by the room")
	}
}

// P20.1: each sector of disks of each size is read, and none beyond them.
func TestRead(t *testing.T) {
	for _, size := range sizes() {
		d := disk(size)
		for n := range size {
			got, e := block.Read(d, n)
			same(t, fmt.Sprintf("Read(of %d, %d)", size, n), got, e, d[512*n:512*n+512], api.OK)
		}
		for _, n := range append(wild(), size, size+1, 64, 65, 511, 512, 513, -size, -size-1) {
			if n >= 0 && n < size {
				continue
			}
			got, e := block.Read(d, n)
			same(t, fmt.Sprintf("Read(of %d, %d)", size, n), got, e, nil, api.ErrDisk)
		}
	}
}

// P20.1: each sector of disks of each size is written, no other one is changed, and none beyond them is written.
func TestWrite(t *testing.T) {
	b := marked(512, 77)
	for _, size := range sizes() {
		d := disk(size)
		for n := range size {
			got, e := block.Write(d, n, b)
			want := slices.Concat(d[:512*n], b, d[512*n+512:])
			same(t, fmt.Sprintf("Write(of %d, %d)", size, n), got, e, want, api.OK)
		}
		for _, n := range append(wild(), size, size+1, 64, 65, 511, 512, 513) {
			if n >= 0 && n < size {
				continue
			}
			got, e := block.Write(d, n, b)
			same(t, fmt.Sprintf("Write(of %d, %d)", size, n), got, e, nil, api.ErrDisk)
		}
	}
}

// P20.1: only 512 bytes are a sector, also where there is no such sector: that error comes first.
func TestWriteLength(t *testing.T) {
	d := disk(2)
	for _, n := range []int{0, 1, 2, 255, 256, 510, 511, 513, 514, 1023, 1024, 1025, diskBytes} {
		for _, sector := range []int{0, 1, 2, -1, 64} {
			got, e := block.Write(d, sector, make([]byte, n))
			same(t, fmt.Sprintf("Write(%d, of %d)", sector, n), got, e, nil, api.ErrArg)
		}
	}
	if got, e := block.Write(d, 0, nil); e != api.ErrArg || len(got) != 0 {
		t.Errorf("Write of no list: %d, %v", len(got), e)
	}
}

// P20.1: of what is no disk nothing is answered, whatever else is wrong or right.
func TestNoDisk(t *testing.T) {
	for _, size := range misfits() {
		d := make([]byte, size)
		for _, n := range append(wild(), 0, 1, 63, 64) {
			got, e := block.Read(d, n)
			same(t, fmt.Sprintf("Read(%d bytes, %d)", size, n), got, e, nil, api.ErrArg)
			for _, length := range []int{0, 1, 511, 512, 513} {
				got, e = block.Write(d, n, make([]byte, length))
				same(t, fmt.Sprintf("Write(%d bytes, %d)", size, n), got, e, nil, api.ErrArg)
				got, e = block.Put(d, n, make([]byte, length))
				same(t, fmt.Sprintf("Put(%d bytes, %d)", size, n), got, e, nil, api.ErrArg)
				got, e = block.Get(d, n, length)
				same(t, fmt.Sprintf("Get(%d bytes, %d)", size, n), got, e, nil, api.ErrArg)
			}
			got, e = block.Get(d, 0, n)
			same(t, fmt.Sprintf("Get(%d bytes, 0, %d)", size, n), got, e, nil, api.ErrArg)
		}
	}
}

// P20.1: what is done for stretches that begin and end in, at and about sectors; the chapter's examples are among them.
func TestPlan(t *testing.T) {
	for _, c := range []struct {
		at, n int
		want  []api.Act
	}{
		{510, 4, acts(0, -1, 1, -2)},
		{512, 512, acts(-2)},
		{7, 0, nil},
		{0, 0, nil},
		{0, 1, acts(0, -1)},
		{0, 511, acts(0, -1)},
		{0, 512, acts(-1)},
		{0, 513, acts(-1, 1, -2)},
		{1, 510, acts(0, -1)},
		{1, 511, acts(0, -1)},
		{1, 512, acts(0, -1, 1, -2)},
		{511, 1, acts(0, -1)},
		{511, 2, acts(0, -1, 1, -2)},
		{511, 513, acts(0, -1, -2)},
		{511, 514, acts(0, -1, -2, 2, -3)},
		{512, 0, nil},
		{512, 1, acts(1, -2)},
		{512, 1024, acts(-2, -3)},
		{1000, 1072, acts(1, -2, -3, -4, 4, -5)},
		{32767, 1, acts(63, -64)},
		{32256, 512, acts(-64)},
		{32255, 513, acts(62, -63, -64)},
		{32768, 0, nil},
	} {
		planned(t, c.at, c.n, c.want)
	}
}

// P20.1: the whole disk is written without a sector read.
func TestPlanWhole(t *testing.T) {
	var all []api.Act
	for n := range 64 {
		all = append(all, api.Act{Write: true, Sector: n})
	}
	planned(t, 0, diskBytes, all)
	planned(t, 1, diskBytes-1, append(acts(0), all...))
	planned(t, 0, diskBytes-1, slices.Concat(all[:63], acts(63), all[63:]))
}

// P20.1: stretches that are none, or end behind the last disk.
func TestPlanRefused(t *testing.T) {
	refused := func(at, n int) {
		t.Helper()
		if l, e := block.Plan(at, n); e != api.ErrArg || len(l) != 0 {
			t.Errorf("Plan(%d, %d): %d acts, %v; want ErrArg", at, n, len(l), e)
		}
	}
	for _, x := range wild() {
		for _, y := range append(wild(), edges(diskBytes)...) {
			refused(x, y)
			refused(y, x)
		}
	}
	for _, at := range edges(diskBytes) {
		refused(at, max(diskBytes-at, 0)+1)
	}
	refused(diskBytes+1, 0)
	refused(diskBytes+1, -1)
}

// P20.1: stretches at and about the ends of sectors and of disks, got and put.
func TestGetPut(t *testing.T) {
	for _, size := range sizes() {
		d := disk(size)
		for _, at := range edges(len(d)) {
			for _, n := range edges(len(d)) {
				getPut(t, d, at, n)
			}
		}
	}
}

// getPut: one stretch, which may end behind the disk.
func getPut(t *testing.T, d []byte, at, n int) {
	t.Helper()
	b := marked(n, 99)
	got, e := block.Get(d, at, n)
	put, pe := block.Put(d, at, b)
	call := fmt.Sprintf("(of %d, %d, %d)", len(d), at, n)
	if at+n > len(d) {
		same(t, "Get"+call, got, e, nil, api.ErrDisk)
		same(t, "Put"+call, put, pe, nil, api.ErrDisk)
		return
	}
	same(t, "Get"+call, got, e, d[at:at+n], api.OK)
	same(t, "Put"+call, put, pe, slices.Concat(d[:at], b, d[at+n:]), api.OK)
}

// P20.1: places and lengths that none can be, also where their sum wraps round.
func TestOutside(t *testing.T) {
	for _, size := range sizes() {
		d := disk(size)
		for _, x := range wild() {
			for _, y := range append(wild(), edges(len(d))...) {
				got, e := block.Get(d, x, y)
				same(t, fmt.Sprintf("Get(of %d, %d, %d)", size, x, y), got, e, nil, api.ErrDisk)
				got, e = block.Get(d, y, x)
				same(t, fmt.Sprintf("Get(of %d, %d, %d)", size, y, x), got, e, nil, api.ErrDisk)
			}
			for _, n := range []int{0, 1, 2, 511, 512, 513, 1024} {
				got, e := block.Put(d, x, make([]byte, n))
				same(t, fmt.Sprintf("Put(of %d, %d, of %d)", size, x, n), got, e, nil, api.ErrDisk)
			}
		}
	}
}

// P20.1: a stretch of no bytes lies at each place and at the end, also of a disk without sectors, and not behind it.
func TestNoBytes(t *testing.T) {
	for _, size := range sizes() {
		d := disk(size)
		for _, at := range []int{0, len(d) / 2, len(d)} {
			getPut(t, d, at, 0)
		}
		getPut(t, d, len(d)+1, 0)
		put, e := block.Put(d, len(d), nil)
		same(t, "Put of no list", put, e, d, api.OK)
	}
}
