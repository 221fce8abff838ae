package digit_test

import (
	"math/big"
	"strconv"
	"strings"
	"testing"

	"tinder/api"
	"tinder/digit"
)

// numbers: those at which something turns over in the base, and some from all over, the same in each run.
func numbers(base uint32) []uint32 {
	all := []uint32{0, 1, 2, 9, 10, 35, 36, 37, 255, 256, 65535, 65536, sign - 1, sign, sign + 1, most - 1, most}
	for power := uint64(1); power <= uint64(most); power *= uint64(base) {
		n := uint32(power)
		all = append(all, n-1, n, n+1, -n, sign+n)
	}
	x := uint32(2463534242)
	for range 60 {
		x ^= x << 13
		x ^= x >> 17
		x ^= x << 5
		all = append(all, x, x>>(x%31))
	}
	return all
}

// P2.1: what is shown is what the library shows, in each base.
func TestShownAsTheLibraryShows(t *testing.T) {
	for base := uint32(2); base <= 36; base++ {
		for _, n := range numbers(base) {
			if got, e := digit.Show(n, base); got != strconv.FormatUint(uint64(n), int(base)) || e != api.OK {
				t.Errorf("Show(%d, %d) = %q, %v", n, base, got, e)
			}
			if got, e := digit.Signed(n, base); got != strconv.FormatInt(int64(int32(n)), int(base)) || e != api.OK {
				t.Errorf("Signed(%d, %d) = %q, %v", n, base, got, e)
			}
		}
	}
}

// P2.2: what Show and Signed show is parsed as the number, with great letters and with noughts ahead too.
func TestThereAndBack(t *testing.T) {
	for base := uint32(2); base <= 36; base++ {
		for _, n := range numbers(base) {
			shown, _ := digit.Show(n, base)
			signed, _ := digit.Signed(n, base)
			for _, s := range []string{shown, signed, strings.ToUpper(shown), strings.ToUpper(signed), "00" + shown} {
				if got, e := digit.Parse(s, base); got != n || e != api.OK {
					t.Errorf("Parse(%q, %d) = %d, %v; want %d", s, base, got, e, n)
				}
			}
		}
	}
}

// P2.2: a literal is parsed as its letter says.
func TestLiteralThereAndBack(t *testing.T) {
	for letter, base := range map[string]uint32{"": 10, "d#": 10, "D#": 10, "h#": 16, "H#": 16, "o#": 8, "O#": 8, "b#": 2, "B#": 2} {
		for _, n := range numbers(base) {
			shown, _ := digit.Show(n, base)
			signed, _ := digit.Signed(n, base)
			for _, s := range []string{shown, signed} {
				if got, ok := digit.Literal(letter + s); got != n || !ok {
					t.Errorf("Literal(%q) = %d, %v; want %d", letter+s, got, ok, n)
				}
			}
		}
	}
}

// P2.2: shown texts of unlike numbers are unlike.
func TestUnlikeTexts(t *testing.T) {
	for base := uint32(2); base <= 36; base++ {
		shown, signed := map[string]uint32{}, map[string]uint32{}
		for _, n := range numbers(base) {
			s, _ := digit.Show(n, base)
			if old, ok := shown[s]; ok && old != n {
				t.Errorf("Show of %d and of %d in base %d: %q", old, n, base, s)
			}
			shown[s] = n
			s, _ = digit.Signed(n, base)
			if old, ok := signed[s]; ok && old != n {
				t.Errorf("Signed of %d and of %d in base %d: %q", old, n, base, s)
			}
			signed[s] = n
		}
	}
}

// parsed is what Parse must answer, by numbers of any size.
func parsed(s string, base uint32) (uint32, api.Errno) {
	body := strings.TrimPrefix(s, "-")
	n, ok := new(big.Int).SetString(body, int(base))
	if !ok || strings.ContainsAny(body, "+-_") {
		return 0, api.ErrText
	}
	if n.BitLen() > 32 {
		return 0, api.ErrRange
	}
	if body != s {
		return -uint32(n.Uint64()), api.OK
	}
	return uint32(n.Uint64()), api.OK
}

// P2.1, Parse: the number above the greatest, and every short text of some bytes, against numbers of any size.
func TestParseAgainstAnySize(t *testing.T) {
	above := new(big.Int).Lsh(big.NewInt(1), 32)
	for base := uint32(2); base <= 36; base++ {
		texts := []string{above.Text(int(base)), "-" + above.Text(int(base)), new(big.Int).Lsh(above, 32).Text(int(base)), new(big.Int).Mul(above, above).Text(int(base)) + "0"}
		for _, a := range "-019aAzZ+_ #" {
			for _, b := range "-019aAzZ+_ #" {
				for _, c := range "-019aAzZ+_ #" {
					texts = append(texts, string(a), string(a)+string(b), string(a)+string(b)+string(c))
				}
			}
		}
		for _, s := range texts {
			want, wanted := parsed(s, base)
			if got, e := digit.Parse(s, base); got != want || e != wanted {
				t.Errorf("Parse(%q, %d) = %d, %v; want %d, %v", s, base, got, e, want, wanted)
			}
		}
	}
}
