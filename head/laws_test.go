package head_test

import (
	"bytes"
	"math/rand"
	"slices"
	"testing"

	"tinder/api"
	"tinder/head"
)

func chance() *rand.Rand { return rand.New(rand.NewSource(14)) }

func anyBytes(r *rand.Rand, n int) []byte {
	b := make([]byte, n)
	for i := range b {
		b[i] = byte(r.Intn(256))
	}
	return b
}

// modelSum: two digits to the base 256, as one adds by hand.
func modelSum(b []byte) int {
	high, low := 0, 0
	for _, x := range b {
		low += int(x)
		if low >= 256 {
			high, low = high+1, low-256
		}
		if high == 256 {
			high = 0
		}
	}
	return high*256 + low
}

// modelMake: a program by its bytes' places.
func modelMake(body []byte, wide bool) ([]byte, api.Errno) {
	size := 8 + len(body)
	if size > 8192 {
		return nil, api.ErrLong
	}
	b := make([]byte, size)
	b[0] = map[bool]byte{true: 0xf1, false: 0xfd}[wide]
	b[1] = 8
	b[2], b[3] = byte(modelSum(body)/256), byte(modelSum(body)%256)
	b[6], b[7] = byte(size/256), byte(size%256)
	copy(b[8:], body)
	return b, api.OK
}

// modelCheck: tries which of all bodies that the bytes could hold would be made into just what they begin with.
func modelCheck(b []byte) ([]byte, bool, api.Errno) {
	for n := 8; n <= len(b) && len(b) <= 8192; n++ {
		for _, wide := range []bool{false, true} {
			if p, _ := modelMake(b[8:n], wide); bytes.Equal(p, b[:n]) {
				return b[8:n], wide, api.OK
			}
		}
	}
	return nil, false, api.ErrHead
}

// asModel: that Check answers as the model does; whether it is a program.
func asModel(t *testing.T, b []byte) bool {
	t.Helper()
	body, wide, e := modelCheck(b)
	got, is, ge := head.Check(b)
	if ge != e || is != wide || !bytes.Equal(got, body) {
		t.Fatalf("Check(%.60x), %d bytes: %.40x, %v, %v; want %.40x, %v, %v", b, len(b), got, is, ge, body, wide, e)
	}
	return e == api.OK
}

// P14.1: sums and programs as the model has them, of each length up to the limit and some beyond.
func TestBodiesOfEachLength(t *testing.T) {
	r := chance()
	for n := range 8192 + 20 {
		body, wide := anyBytes(r, n), r.Intn(2) == 0
		if got := head.Sum(body); got != modelSum(body) {
			t.Fatalf("Sum of %d bytes: %d; want %d", n, got, modelSum(body))
		}
		want, e := modelMake(body, wide)
		if got, ge := head.Make(body, wide); ge != e || !bytes.Equal(got, want) {
			t.Fatalf("Make of %d bytes, %v: %.40x, %v; want %.40x, %v", n, wide, got, ge, want, e)
		}
	}
}

// P14.1: the sum of a row is that of its parts, by 65536, wherever it is parted and however it is turned.
func TestSumOfParts(t *testing.T) {
	r := chance()
	for range 2000 {
		b := anyBytes(r, r.Intn(1000))
		k := r.Intn(len(b) + 1)
		sum := head.Sum(b)
		if parts := head.Sum(b[:k]) + head.Sum(b[k:]); sum != parts%65536 {
			t.Fatalf("Sum of %d bytes: %d; of its parts %d", len(b), sum, parts)
		}
		r.Shuffle(len(b), func(i, j int) { b[i], b[j] = b[j], b[i] })
		if turned := head.Sum(b); turned != sum {
			t.Fatalf("Sum of %d bytes: %d; turned %d", len(b), sum, turned)
		}
	}
}

// P14.1: bytes that are near to being programs, against the model.
func TestNearPrograms(t *testing.T) {
	r := chance()
	near := []byte{0, 1, 7, 8, 9, 10, 11, 12, 0x80, 0xf1, 0xfd, 0xff}
	taken, refused := 0, 0
	for range 40000 {
		b, _ := head.Make(anyBytes(r, r.Intn(5)), r.Intn(2) == 0)
		b = append(b, anyBytes(r, r.Intn(4))...)
		for range r.Intn(3) {
			b[r.Intn(len(b))] = near[r.Intn(len(near))]
		}
		if asModel(t, b[:len(b)-r.Intn(2)]) {
			taken++
		} else {
			refused++
		}
	}
	if taken < 5000 || refused < 5000 {
		t.Errorf("too few: %d taken, %d refused", taken, refused)
	}
}

// P14.1: programs of which each length is claimed, where the bytes up to it have the right sum.
func TestClaimedLengths(t *testing.T) {
	r := chance()
	for range 20 {
		b := append(make([]byte, 8), anyBytes(r, r.Intn(300))...)
		for size := range len(b) + 20 {
			sum := modelSum(b[8:max(8, min(size, len(b)))])
			copy(b, []byte{0xf1, 8, byte(sum / 256), byte(sum % 256), 0, 0, byte(size / 256), byte(size % 256)})
			if is := asModel(t, b); is != (size >= 8 && size <= len(b)) {
				t.Fatalf("a length of %d in %d bytes: %v", size, len(b), is)
			}
		}
	}
}

// P14.2: the body of a program that was made is had again, whatever bytes stand behind it.
func TestThereAndBack(t *testing.T) {
	r := chance()
	for n := range 8184 + 1 {
		body, wide := anyBytes(r, n), n%2 == 0
		if n%3 == 0 {
			body = bytes.Repeat([]byte{byte(r.Intn(256))}, n)
		}
		b := made(t, body, wide)
		taken(t, b, body, wide)
		room := api.MaxFCode - len(b)
		taken(t, append(b, anyBytes(r, r.Intn(room+1))...), body, wide)
		taken(t, append(b, anyBytes(r, min(room, 1))...), body, wide)
	}
}

// P14.2: a program within a program comes out as it went in.
func TestProgramInProgram(t *testing.T) {
	b := row("47 ff")
	var rows [][]byte
	for n := range 100 {
		rows = append(rows, b)
		b = made(t, b, n%3 == 0)
	}
	for n := 99; n >= 0; n-- {
		taken(t, b, rows[n], n%3 == 0)
		b, _, _ = head.Check(b)
	}
}

// P14.3: a program of which any byte of the body or of the sum is any other one is refused, with bytes behind it too.
func TestOneByte(t *testing.T) {
	r := chance()
	for _, n := range []int{0, 1, 2, 3, 8, 60, 257, 258, 300} {
		for _, wide := range []bool{false, true} {
			for _, behind := range []int{0, 5} {
				b := append(made(t, anyBytes(r, n), wide), make([]byte, behind)...)
				for at := range 8 + n {
					if at < 2 || at >= 4 && at < 8 {
						continue
					}
					was := b[at]
					for x := 1; x < 256; x++ {
						b[at] = was + byte(x)
						refused(t, b)
					}
					b[at] = was
				}
				taken(t, b, b[8:8+n], wide)
			}
		}
	}
}

// P14.3: so it is at each place of the longest program, and of such as have one byte all over.
func TestOneByteOfTheLongest(t *testing.T) {
	for _, fill := range []byte{0, 0x80, 0xff} {
		b := made(t, bytes.Repeat([]byte{fill}, 8184), true)
		for at := 8; at < len(b); at++ {
			was := b[at]
			for _, x := range []byte{1, 0x80, 0xff} {
				b[at] = was + x
				refused(t, b)
			}
			b[at] = was
		}
		taken(t, b, b[8:], true)
	}
}

// spared: a row with room behind it that is not to be touched, and all of both.
func spared(b []byte) ([]byte, []byte) {
	all := append(slices.Clone(b), bytes.Repeat([]byte{0x5a}, 32)...)
	return all[:len(b)], all
}

// turn: changes each byte of a row and of the room behind it.
func turn(b []byte) {
	b = b[:cap(b)]
	for i := range b {
		b[i] ^= 0xff
	}
}

// P14.1, P1: what is made is new memory; what is handed in is left as it was, the room behind it too.
func TestMadeIsNew(t *testing.T) {
	for _, n := range []int{0, 1, 2, 7, 8, 9, 300, 8183, 8184, 8185} {
		body, all := spared(bytes.Repeat([]byte{0xc8}, n))
		was := slices.Clone(all)
		one, e := head.Make(body, true)
		two, _ := head.Make(body, true)
		kept := slices.Clone(two)
		turn(one)
		if !bytes.Equal(all, was) || !bytes.Equal(two, kept) {
			t.Errorf("Make of %d bytes, %v: shares memory", n, e)
		}
		turn(all)
		if !bytes.Equal(two, kept) {
			t.Errorf("Make of %d bytes, %v: keeps what is handed in", n, e)
		}
	}
}

// P14.1, P1: so is a body that is had again; so it is with bytes that are refused, and with sums.
func TestCheckedIsNew(t *testing.T) {
	for _, digits := range []string{
		"f1 08 01 46 00 00 00 0a 47 ff", "f1 08 01 46 00 00 00 0a 47 ff 01 02 03", "fd 08 00 00 00 00 00 08", "fd 08 00 00 00 00 00 08 01",
		"f1 08 01 45 00 00 00 0a 47 ff", "f1 08 01 46 00 00 00 0b 47 ff", "f1 08", "",
	} {
		b, all := spared(row(digits))
		was := slices.Clone(all)
		one, _, e := head.Check(b)
		two, _, _ := head.Check(b)
		head.Sum(b)
		kept := slices.Clone(two)
		turn(one)
		if !bytes.Equal(all, was) || !bytes.Equal(two, kept) {
			t.Errorf("Check(%s), %v: shares memory", digits, e)
		}
		turn(all)
		if !bytes.Equal(two, kept) {
			t.Errorf("Check(%s), %v: keeps what is handed in", digits, e)
		}
	}
}

// P1: a call hangs on its arguments alone: an error or a sum of one says nothing of the next one.
func TestNothingIsKept(t *testing.T) {
	for range 3 {
		taken(t, row("f1 08 01 46 00 00 00 0a 47 ff"), row("47 ff"), true)
		refused(t, row("f1 08 01 47 00 00 00 0a 47 ff"))
		taken(t, row("fd 08 00 00 00 00 00 08"), nil, false)
		if n := head.Sum(row("47 ff")); n != 0x146 {
			t.Errorf("Sum: %d", n)
		}
		if b := made(t, nil, false); !bytes.Equal(b, row("fd 08 00 00 00 00 00 08")) {
			t.Errorf("Make: %x", b)
		}
	}
}
