package token

import "tinder/api"

// lay: the bytes of a token, which must be formed, behind b.
func lay(b []byte, t api.Tok, wide bool) []byte {
	b = layCode(b, t.Code)
	switch behind(t.Code) {
	case aNumber:
		b = append(b, byte(t.N>>24), byte(t.N>>16), byte(t.N>>8), byte(t.N))
	case aCode:
		b = layCode(b, int(t.N))
	case aText:
		b = layText(b, t.Text)
	case anOffset:
		if wide {
			b = append(b, byte(t.Off>>8))
		}
		b = append(b, byte(t.Off))
	case aNamedWord:
		b = layText(b, t.Text)
		fallthrough
	case aWord:
		b = append(b, byte(t.N>>8), byte(t.N))
	}
	return b
}

func layCode(b []byte, code int) []byte {
	if code > 0xff {
		b = append(b, byte(code>>8))
	}
	return append(b, byte(code))
}

func layText(b []byte, s string) []byte {
	b = append(b, byte(len(s)))
	return append(b, s...)
}

// A reader takes tokens off bytes. It is of no more use once it is short: what it answers then means nothing.
type reader struct {
	left  []byte
	short bool // more bytes were asked for than there were
}

// token: the next one, which need not be formed.
func (r *reader) token(wide bool) api.Tok {
	t := api.Tok{Code: r.code()}
	switch behind(t.Code) {
	case aNumber:
		t.N = r.number(4)
	case aCode:
		t.N = uint32(r.code())
	case aText:
		t.Text = r.text()
	case anOffset:
		t.Off = r.offset(wide)
	case aNamedWord:
		t.Text = r.text()
		fallthrough
	case aWord:
		t.N = r.number(2)
	}
	return t
}

// code: one byte, or two where the first one alone is no code.
func (r *reader) code() int {
	n := int(r.number(1))
	if !isCode(n) {
		n = n<<8 | int(r.number(1))
	}
	return n
}

func (r *reader) text() string {
	return string(r.take(int(r.number(1))))
}

func (r *reader) offset(wide bool) int {
	if wide {
		return int(int16(r.number(2)))
	}
	return int(int8(r.number(1)))
}

// number: of so many bytes, the highest first.
func (r *reader) number(size int) uint32 {
	n := uint32(0)
	for _, b := range r.take(size) {
		n = n<<8 | uint32(b)
	}
	return n
}

// take: so many bytes of those that were handed in, which is why they are copied ahead of being answered.
func (r *reader) take(n int) []byte {
	if n > len(r.left) {
		r.left, r.short = nil, true
		return nil
	}
	b := r.left[:n]
	r.left = r.left[n:]
	return b
}
