package nvram_test

import (
	"bytes"
	"math"
	"slices"
	"testing"

	"tinder/api"
	"tinder/nvram"
)

// P18.1: sums of generations and data.
func TestSum(t *testing.T) {
	for _, c := range []struct {
		generation byte
		data       []byte
		want       uint32
	}{
		{0, nil, 0x4ab0f7b7},
		{0, []byte{}, 0x4ab0f7b7},
		{1, nil, 0x0bca446c},
		{255, nil, 0x236d9dfe},
		{1, []byte{7}, 0x1a6c2568},
		{2, []byte{7}, 0xc8ebfd87},
		{7, []byte{1}, 0x8013b0b8},
		{0, []byte{0}, 0x25937aac},
		{0, []byte{0, 0}, 0x8fde36a5},
		{1, []byte("ab"), 0x1227eaf1},
		{1, []byte("ba"), 0x1f1fb0a3},
		{0x80, digits("ff 80 01"), 0x089ea274},
		{3, []byte("boot-limit=7\x00"), 0xc8490999},
		{5, bytes.Repeat([]byte{0xa5}, 248), 0xfbd0c170},
	} {
		if got := nvram.Sum(c.generation, c.data); got != c.want {
			t.Errorf("Sum(%d, %.20x), %d bytes: %08x; want %08x", c.generation, c.data, len(c.data), got, c.want)
		}
	}
}

// P18.1: the sum is that of any data; only the two bytes of their length are by 65536.
func TestSumOfAnyLength(t *testing.T) {
	for _, c := range []struct {
		generation, fill byte
		n                int
		want             uint32
	}{
		{5, 0xa5, 249, 0x90b81282},
		{9, 0xff, 255, 0x74a7ffac},
		{9, 0xff, 256, 0x57e0662d},
		{9, 0xff, 257, 0x78bc98ff},
		{1, 0, 65535, 0xf20bf6f6},
		{1, 0, 65536, 0x34fa446c},
		{1, 0, 65537, 0xca40306d},
		{1, 0, 1 << 20, 0x9eca446c},
	} {
		if got := nvram.Sum(c.generation, bytes.Repeat([]byte{c.fill}, c.n)); got != c.want {
			t.Errorf("Sum(%d), %d bytes %02x: %08x; want %08x", c.generation, c.n, c.fill, got, c.want)
		}
	}
}

// P18.1: one bank that is right counts, whichever it is and whatever its generation, beside one that is not.
func TestOneRight(t *testing.T) {
	wrong := [][]byte{nil, bytes.Repeat([]byte{0xff}, 256), bytes.Repeat([]byte{0xa5}, 256), turned(image(2, []byte{7}), 0, 0xa5), turned(image(4, []byte{7}), 7, 1)}
	for _, generation := range []byte{0, 1, 3, 127, 128, 254, 255} {
		for _, data := range [][]byte{nil, {7}, {0}, {0, 0, 0}, []byte("boot-limit=7\x00"), bytes.Repeat([]byte{0xa5}, 248)} {
			for _, other := range wrong {
				found(t, both(image(generation, data), other), data, 0)
				found(t, both(other, image(generation, data)), data, 1)
			}
		}
	}
	found(t, both(nil, digits("a5 01 00 01 1a 6c 25 68 07")), []byte{7}, 1)
	found(t, both(digits("a5 00 00 00 4a b0 f7 b7"), nil), nil, 0)
}

// P18.1: data of each length that there is room for are found, whatever stands behind them.
func TestEachLength(t *testing.T) {
	r := chance()
	for n := range 249 {
		data := anyBytes(r, n)
		b := append(image(byte(n), data), anyBytes(r, 248-n)...)
		found(t, both(b, nil), data, 0)
		found(t, both(nil, b), data, 1)
	}
}

// P18.1: the mark is a5 and no other byte.
func TestMark(t *testing.T) {
	for n := range 256 {
		b := image(byte(n), []byte{1, 2, 3})
		b[0] = byte(n)
		if n == 0xa5 {
			found(t, both(b, nil), []byte{1, 2, 3}, 0)
			found(t, both(nil, b), []byte{1, 2, 3}, 1)
		} else {
			missing(t, both(b, nil))
			missing(t, both(nil, b))
			missing(t, both(b, b))
		}
	}
}

// P18.1: a bank whose length is more than 248 is not right, though the sum may be that of so many bytes, of those that a bank has, or of those that two have.
func TestLongerThanABank(t *testing.T) {
	for n := 249; n < 65536; n = n + 1 + n/300 {
		for _, sum := range []uint32{
			modelSum(1, make([]byte, n)), modelSum(1, make([]byte, 248)), modelSum(1, make([]byte, n%256)), modelSum(1, nil), overlong(n, 248), overlong(n, 504), overlong(n, 0),
		} {
			b := []byte{0xa5, 1, byte(n >> 8), byte(n), byte(sum >> 24), byte(sum >> 16), byte(sum >> 8), byte(sum)}
			missing(t, both(b, nil))
			missing(t, both(nil, b))
			found(t, both(b, image(2, []byte{9})), []byte{9}, 1)
			found(t, both(image(0, []byte{9}), b), []byte{9}, 0)
		}
	}
}

// overlong: the sum of generation 1, a length n, and fewer noughts.
func overlong(n, noughts int) uint32 {
	sum := uint32(0x811c9dc5)
	for _, x := range append([]byte{1, byte(n >> 8), byte(n)}, make([]byte, noughts)...) {
		sum = (sum ^ uint32(x)) * 0x01000193
	}
	return sum
}

// P18.1: data of number 0 that would reach into number 1 are none, even where all their bytes and their sum are there.
func TestReachingOver(t *testing.T) {
	for n := 249; n <= 504; n++ {
		nv := append(image(1, bytes.Repeat([]byte{3}, n)), make([]byte, 504-n)...)
		missing(t, nv)
	}
}

// P18.1: of two that are right, number 1 counts if its generation is that of number 0 plus 1, by 256; else number 0. Data are written in the other one, with the generation behind.
func TestTwoRight(t *testing.T) {
	one, two := []byte{1, 1}, []byte{2, 2, 2}
	for first := range 256 {
		for second := range 256 {
			nv := both(image(byte(first), one), image(byte(second), two))
			to, generation := 256, byte(first+1)
			if second == (first+1)%256 {
				found(t, nv, two, 1)
				to, generation = 0, byte(second+1)
			} else {
				found(t, nv, one, 0)
			}
			if l := planned(t, nv, nil); l[0].At != to || l[1] != (api.Byte{At: to + 1, V: generation}) {
				t.Fatalf("Plan at %d and %d: %v; want %d, %d", first, second, l, to, generation)
			}
		}
	}
}

// P18.1: the generation of a bank that isn't right says nothing.
func TestGenerationOfAWrongBank(t *testing.T) {
	for _, generation := range []byte{0, 1, 7, 254, 255} {
		for _, at := range []int{0, 4, 7, 8} {
			right, wrong := image(generation, []byte{1}), turned(image(generation+1, []byte{2}), at, 0x10)
			for _, nv := range [][]byte{both(right, wrong), both(wrong, right)} {
				_, k, _ := nvram.Recover(nv)
				found(t, nv, []byte{1}, k)
				if l := planned(t, nv, nil); l[0].At != 256-256*k || l[1].V != generation+1 || l[1].At != l[0].At+1 {
					t.Errorf("Plan beside a wrong bank: %v", l)
				}
			}
		}
	}
}

// P18.1: rows byte by byte.
func TestPlan(t *testing.T) {
	for _, c := range []struct {
		nv, data []byte
		want     []api.Byte
	}{
		{make([]byte, 512), []byte{7}, row(0, 0, 1, 1, 2, 0, 3, 1, 4, 0x1a, 5, 0x6c, 6, 0x25, 7, 0x68, 8, 7, 0, 0xa5)},
		{make([]byte, 512), nil, row(0, 0, 1, 1, 2, 0, 3, 0, 4, 0x0b, 5, 0xca, 6, 0x44, 7, 0x6c, 0, 0xa5)},
		{both(nil, image(0, []byte{7})), []byte("ab"), row(0, 0, 1, 1, 2, 0, 3, 2, 4, 0x12, 5, 0x27, 6, 0xea, 7, 0xf1, 8, 'a', 9, 'b', 0, 0xa5)},
		{both(image(1, []byte{7}), nil), []byte{7}, row(256, 0, 257, 2, 258, 0, 259, 1, 260, 0xc8, 261, 0xeb, 262, 0xfd, 263, 0x87, 264, 7, 256, 0xa5)},
		{both(image(255, nil), image(1, nil)), []byte{0, 0}, row(256, 0, 257, 0, 258, 0, 259, 2, 260, 0x8f, 261, 0xde, 262, 0x36, 263, 0xa5, 264, 0, 265, 0, 256, 0xa5)},
		{both(image(255, nil), image(0, nil)), nil, row(0, 0, 1, 1, 2, 0, 3, 0, 4, 0x0b, 5, 0xca, 6, 0x44, 7, 0x6c, 0, 0xa5)},
	} {
		if got, e := nvram.Plan(c.nv, c.data); e != api.OK || !slices.Equal(got, c.want) {
			t.Errorf("Plan of %x: %v, %v; want %v", c.data, got, e, c.want)
		}
	}
}

// P18.1: the two bytes of the length, and each place in its order, for each length.
func TestPlanOfEachLength(t *testing.T) {
	r := chance()
	for n := range 249 {
		data := anyBytes(r, n)
		for start, nv := range map[int][]byte{0: make([]byte, 512), 256: both(image(0, nil), image(0, nil))} {
			l := planned(t, nv, data)
			last := len(l) - 1
			if l[0] != (api.Byte{At: start}) || l[last] != (api.Byte{At: start, V: 0xa5}) || l[2].V != 0 || l[3].V != byte(n) {
				t.Fatalf("Plan of %d bytes: %v", n, l)
			}
			for i := 1; i < last; i++ {
				if l[i].At != start+i || i >= 8 && l[i].V != data[i-8] {
					t.Fatalf("Plan of %d bytes: %v at %d", n, l[i], i)
				}
			}
		}
	}
}

// P18.1: at most 248 bytes are written.
func TestLongestData(t *testing.T) {
	for _, nv := range [][]byte{make([]byte, 512), both(image(0, nil), nil), both(nil, image(9, []byte{1}))} {
		for _, n := range []int{246, 247, 248} {
			planned(t, nv, make([]byte, n))
		}
		for _, n := range []int{249, 250, 255, 256, 257, 504, 512, 65536, 65537, 1 << 20} {
			unplanned(t, nv, make([]byte, n), api.ErrLong)
		}
	}
}

// P18.1: of other than 512 bytes nothing is found, and nothing is planned for them; that comes ahead of data which are too long.
func TestOtherSizes(t *testing.T) {
	for _, n := range []int{0, 1, 7, 8, 9, 255, 256, 257, 510, 511, 513, 514, 768, 1024, 65536 + 512} {
		nv := make([]byte, n)
		copy(nv, image(1, nil))
		if n > 256 {
			copy(nv[256:], image(2, nil))
		}
		missing(t, nv)
		unplanned(t, nv, nil, api.ErrArg)
		unplanned(t, nv, []byte{7}, api.ErrArg)
		unplanned(t, nv, make([]byte, 249), api.ErrArg)
	}
	missing(t, nil)
	unplanned(t, nil, nil, api.ErrArg)
	found(t, both(image(1, nil), image(2, nil)), nil, 1)
	unplanned(t, both(image(1, nil), image(2, nil)), make([]byte, 249), api.ErrLong)
}

// P18.1: the first n bytes are written, none below 0, all where there are fewer.
func TestApplySome(t *testing.T) {
	nv := []byte{10, 11, 12, 13}
	l := row(2, 1, 0, 2, 3, 3)
	for _, c := range []struct {
		n    int
		want []byte
	}{
		{math.MinInt, []byte{10, 11, 12, 13}},
		{-2, []byte{10, 11, 12, 13}},
		{-1, []byte{10, 11, 12, 13}},
		{0, []byte{10, 11, 12, 13}},
		{1, []byte{10, 11, 1, 13}},
		{2, []byte{2, 11, 1, 13}},
		{3, []byte{2, 11, 1, 3}},
		{4, []byte{2, 11, 1, 3}},
		{1000, []byte{2, 11, 1, 3}},
		{math.MaxInt, []byte{2, 11, 1, 3}},
	} {
		if got := nvram.Apply(nv, l, c.n); !bytes.Equal(got, c.want) {
			t.Errorf("Apply of %d: %v; want %v", c.n, got, c.want)
		}
		for _, none := range [][]api.Byte{nil, {}} {
			if got := nvram.Apply(nv, none, c.n); !bytes.Equal(got, nv) {
				t.Errorf("Apply of %d of none: %v", c.n, got)
			}
		}
	}
}

// P18.1: what has its place outside changes nothing, but is counted; of two with one place the later one stays.
func TestApplyOutside(t *testing.T) {
	for _, c := range []struct {
		nv   []byte
		l    []api.Byte
		n    int
		want []byte
	}{
		{nil, row(0, 1), 1, nil},
		{[]byte{}, row(0, 1, -1, 1, 1, 1), 3, nil},
		{[]byte{5}, row(0, 1), 1, []byte{1}},
		{[]byte{5}, row(1, 1, -1, 2, math.MaxInt, 3, math.MinInt, 4), 4, []byte{5}},
		{[]byte{5}, row(1, 1, -1, 2, 0, 3), 2, []byte{5}},
		{[]byte{5}, row(1, 1, -1, 2, 0, 3), 3, []byte{3}},
		{[]byte{5, 6, 7}, row(2, 1, 3, 2, 0, 3), 9, []byte{3, 6, 1}},
		{[]byte{5, 6}, row(1, 1, 1, 2, 1, 0), 2, []byte{5, 2}},
		{[]byte{5, 6}, row(1, 1, 1, 2, 1, 0), 3, []byte{5, 0}},
		{[]byte{5, 6}, row(257, 1, 256, 2, -256, 3, 1<<30, 4), 4, []byte{5, 6}},
	} {
		if got := nvram.Apply(c.nv, c.l, c.n); !bytes.Equal(got, c.want) {
			t.Errorf("Apply of %d of %v to %v: %v; want %v", c.n, c.l, c.nv, got, c.want)
		}
	}
}

// P18.1: a memory may have any length, the first and the last of its places included.
func TestApplyToAnyLength(t *testing.T) {
	for _, n := range []int{1, 2, 255, 256, 257, 511, 512, 513, 5000} {
		nv := bytes.Repeat([]byte{0x33}, n)
		want := slices.Clone(nv)
		want[0], want[n-1] = 1, 2
		if got := nvram.Apply(nv, row(n, 9, 0, 1, n-1, 2, -1, 9), 4); !bytes.Equal(got, want) {
			t.Errorf("Apply to %d bytes: %.20x", n, got)
		}
	}
}
