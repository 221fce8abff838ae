package fcc_test

import (
	"bytes"
	"fmt"
	"strings"
	"testing"

	"tinder/api"
	"tinder/fcc"
)

// P15.1: the examples of the chapter.
func TestExamples(t *testing.T) {
	gives(t, ": x if 1 then ;", `b6"x"=800 b7 14+4 a6 b2 c2`)
	errs(t, "zz", api.ErrWord)
	errs(t, "then", api.ErrControl)
	gives(t, "5 constant c c", `10=5 b6"c"=800 ba 800`)
}

// P15.1: programs, byte by byte.
func TestPrograms(t *testing.T) {
	for _, c := range []struct{ text, want string }{
		{"", "f1 08 00 00 00 00 00 09 00"},
		{"dup", "f1 08 00 47 00 00 00 0a 47 00"},
		{"1 2 +", "f1 08 01 6b 00 00 00 0c a6 a7 1e 00"},
		{"h#12345678 property", "f1 08 01 35 00 00 00 10 10 12 34 56 78 01 10 00"},
		{`." hi"`, "f1 08 01 75 00 00 00 0e 12 02 68 69 90 00"},
		{": x if 1 then ;", "f1 08 04 20 00 00 00 15 b6 01 78 08 00 b7 14 00 04 a6 b2 c2 00"},
		{": x begin 1 until ;", "f1 08 06 18 00 00 00 15 b6 01 78 08 00 b7 b1 a6 14 ff fe c2 00"},
		{"5 constant c c ' c", "f1 08 02 12 00 00 00 19 10 00 00 00 05 b6 01 63 08 00 ba 08 00 11 08 00 00"},
	} {
		want := strings.ReplaceAll(c.want, " ", "")
		if b, e := fcc.Compile(c.text); e != api.OK || fmt.Sprintf("%x", b) != want {
			t.Errorf("%q: %x, %v; want %s", c.text, b, e, want)
		}
	}
}

// P15.1: each of layer 9's words, by its name, outside of a definition and inside, run and named.
func TestFirstWords(t *testing.T) {
	if len(chapterCodes) != api.Prims {
		t.Fatal(len(chapterCodes))
	}
	for name, code := range chapterCodes {
		gives(t, name, fmt.Sprintf("%x", code))
		gives(t, strings.ToUpper(name), fmt.Sprintf("%x", code))
		gives(t, ": x "+name+" ;", fmt.Sprintf(`b6"x"=800 b7 %x c2`, code))
		gives(t, "' "+name, fmt.Sprintf("11=%x", code))
		gives(t, "to "+name, fmt.Sprintf("c3=%x", code))
		gives(t, ": x ['] "+name+" to "+name+" ;", fmt.Sprintf(`b6"x"=800 b7 11=%x c3=%x c2`, code, code))
	}
}

// P15.1: numbers, in each of layer 2's forms, outside of a definition and inside; what is one of layer 9's words is that.
func TestNumbers(t *testing.T) {
	for text, want := range map[string]string{
		"5": "10=5", "-5": "10=fffffffb", "007": "10=7", "-007": "10=fffffff9", "00": "10", "-0": "10", "01": "10=1", "-01": "10=ffffffff", "4": "10=4", "-2": "10=fffffffe", "-3": "10=fffffffd", "10": "10=a",
		"h#1f": "10=1f", "H#1F": "10=1f", "h#-1": "10=ffffffff", "h#0": "10", "h#1": "10=1", "o#17": "10=f", "O#17": "10=f", "o#-17": "10=fffffff1", "b#101": "10=5", "B#101": "10=5", "b#-1": "10=ffffffff", "d#99": "10=63", "D#-99": "10=ffffff9d", "d#2": "10=2",
		"4294967295": "10=ffffffff", "-4294967295": "10=1", "2147483648": "10=80000000", "-2147483648": "10=80000000", "h#ffffffff": "10=ffffffff", "h#-ffffffff": "10=1", "o#37777777777": "10=ffffffff",
		"b#" + strings.Repeat("1", 32): "10=ffffffff", "b#" + strings.Repeat("0", 60) + "1": "10=1", strings.Repeat("0", 300) + "7": "10=7",
		"0": "a5", "1": "a6", "2": "a7", "3": "a8", "-1": "a4", "-": "1f", "2*": "59",
	} {
		gives(t, text, want)
		gives(t, ": x "+text+" ;", `b6"x"=800 b7 `+want+" c2")
	}
	for _, text := range []string{
		"4294967296", "-4294967296", "h#100000000", "h#-100000000", "o#40000000000", "b#1" + strings.Repeat("0", 32), "99999999999999999999999",
		"1f", "h#", "h#-", "h#g", "o#8", "b#2", "d#a", "d#", "x#1", "#5", "5#", "--5", "+5", "5-", "5.", "0x5", "h#h#5", "h##5", "1,000",
	} {
		errs(t, text, api.ErrWord)
		errs(t, ": x "+text+" ;", api.ErrWord)
	}
}

// P15.1: texts, that are put on the stack and that are shown, of any bytes and each length.
func TestTexts(t *testing.T) {
	for text, want := range map[string]string{
		`" hi"`: `12"hi"`, `" "`: `12`, `."  "`: `12" " 90`, `." "`: `12 90`, `." hi"`: `12"hi" 90`, ".( hi)": `12"hi" 90`, ".( )": "12 90", ".( Hi \" x)": `12"Hi \" x" 90`,
		`" Great: ; ' if"`: `12"Great: ; ' if"`, `" a"(00 ff 22)b"`: `12"a\x00\xff\"b"`, `."  A" ( x) \ y`: `12" A" 90`, `" a" ." b" .( c) " d"`: `12"a" 12"b" 90 12"c" 90 12"d"`,
	} {
		gives(t, text, want)
		gives(t, ": x "+text+" \n ;", `b6"x"=800 b7 `+want+" c2")
	}
	for _, n := range []int{1, 2, 31, 32, 127, 128, 254, 255} {
		s := strings.Repeat("ab", n)[:n]
		gives(t, `" `+s+`"`, fmt.Sprintf("12%q", s))
		gives(t, `: x .( `+s+`) ;`, fmt.Sprintf(`b6"x"=800 b7 12%q 90 c2`, s))
	}
	// The word that shows is layer 9's, whatever else is called type.
	gives(t, `: type ; ." a" type .( b)`, `b6"type"=800 b7 c2 12"a" 90 800 12"b" 90`)
}

// P15.1: each kind of definition, used behind itself, outside of a definition and inside.
func TestDefinitions(t *testing.T) {
	for text, want := range map[string]string{
		": n dup * ;": `b6"n"=800 b7 47 20 c2`, ": n ;": `b6"n"=800 b7 c2`,
		"5 constant n": `10=5 b6"n"=800 ba`, "5 value n": `10=5 b6"n"=800 b8`, "variable n": `b6"n"=800 b9`, "defer n": `b6"n"=800 bc`, "5 buffer: n": `10=5 b6"n"=800 bd`,
		"5 instance value n": `10=5 c0 b6"n"=800 b8`, "5 INSTANCE Value N": `10=5 c0 b6"n"=800 b8`,
		// Nothing is run, so that nothing is missed on the stack.
		"constant n": `b6"n"=800 ba`, "value n": `b6"n"=800 b8`, "buffer: n": `b6"n"=800 bd`, "instance value n": `c0 b6"n"=800 b8`,
	} {
		gives(t, text, want)
		gives(t, text+" n ' n to n : x n ['] n to n ;", want+` 800 11=800 c3=800 b6"x"=801 b7 800 11=800 c3=800 c2`)
		errs(t, "n "+text, api.ErrWord)
		errs(t, "' n "+text, api.ErrWord)
		errs(t, "to n "+text, api.ErrWord)
		errs(t, ": x n ; "+text, api.ErrWord)
		errs(t, ": x ['] n ; "+text, api.ErrWord)
		errs(t, ": x to n ; "+text, api.ErrWord)
	}
	gives(t, "defer a variable b : c ; 1 constant d 2 value e 3 buffer: f 4 instance value g : h a b c d e f g ;",
		`b6"a"=800 bc b6"b"=801 b9 b6"c"=802 b7 c2 a6 b6"d"=803 ba a7 b6"e"=804 b8 a8 b6"f"=805 bd 10=4 c0 b6"g"=806 b8 b6"h"=807 b7 800 801 802 803 804 805 806 c2`)
}

// P15.1: of a name that is defined twice the newest one counts, from where it is known on; a : is known behind its ; .
func TestNewestName(t *testing.T) {
	gives(t, "1 constant n n 2 constant n n", `a6 b6"n"=800 ba 800 a7 b6"n"=801 ba 801`)
	gives(t, "defer n n : n n ; n", `b6"n"=800 bc 800 b6"n"=801 b7 800 c2 801`)
	gives(t, ": n ; : n n ['] n to n ; n ' n to n", `b6"n"=800 b7 c2 b6"n"=801 b7 800 11=800 c3=800 c2 801 11=801 c3=801`)
	gives(t, ": dup dup ; dup : dup dup ; dup", `b6"dup"=800 b7 47 c2 800 b6"dup"=801 b7 800 c2 801`)
	gives(t, "variable 5 5 variable 1 1", `b6"5"=800 b9 800 b6"1"=801 b9 801`)
	gives(t, "defer h#1f h#1f 31", `b6"h#1f"=800 bc 800 10=1f`)
	gives(t, ": N ; n N", `b6"n"=800 b7 c2 800 800`)
	errs(t, ": n n ;", api.ErrWord)
	errs(t, ": n ['] n ;", api.ErrWord)
	errs(t, ": n to n ;", api.ErrWord)
	// A name that can't be looked up as a word may be had behind ' and the like.
	for _, name := range strings.Fields(`: ; ' ['] to exit instance constant value variable defer buffer: if else then begin again until while repeat do ?do loop +loop leave case of endof endcase`) {
		gives(t, ": "+name+" ; ' "+name+" to "+name+" : x ['] "+name+" to "+name+" ;",
			fmt.Sprintf(`b6%q=800 b7 c2 11=800 c3=800 b6"x"=801 b7 11=800 c3=800 c2`, name))
		gives(t, "defer "+name+" ' "+name, fmt.Sprintf(`b6%q=800 bc 11=800`, name))
		errs(t, "' "+name, api.ErrWord)
		errs(t, "to "+name, api.ErrWord)
		errs(t, ": x ['] "+name+" ;", api.ErrWord)
		errs(t, ": x to "+name+" ;", api.ErrWord)
	}
	// Such a name is known, yet the word is what it was.
	errs(t, "defer if if", api.ErrControl)
	gives(t, "defer exit : x exit ;", `b6"exit"=800 bc b6"x"=801 b7 33 c2`)
	gives(t, "defer if : x if then ;", `b6"if"=800 bc b6"x"=801 b7 14+3 b2 c2`)
	gives(t, "defer variable variable x", `b6"variable"=800 bc b6"x"=801 b9`)
}

// P15.1: each word that branches, alone and around others.
func TestBranches(t *testing.T) {
	for body, want := range map[string]string{
		"exit": "33", "if exit then": "14+4 33 b2",
		"if then": "14+3 b2", "if 5 then": "14+8 10=5 b2", "if property then": "14+5 110 b2", `if " abc" then`: `14+8 12"abc" b2`,
		"if else then": "14+6 13+4 b2 b2", "if 1 else 2 3 then": "14+7 a6 13+6 b2 a7 a8 b2",
		"if if then then": "14+7 14+3 b2 b2", "if if else then then": "14+11 14+6 13+4 b2 b2 b2", "if else if then then": "14+6 13+8 b2 14+3 b2 b2",
		"if else else then": "14+6 13+7 b2 13+4 b2 b2",
		"begin again":       "b1 13-1", "begin until": "b1 14-1", "begin 1 again": "b1 a6 13-2", "begin 5 until": "b1 10=5 14-6",
		"begin begin again again": "b1 b1 13-1 13-5", "begin begin until again": "b1 b1 14-1 13-5",
		"begin while repeat": "b1 14+6 13-4 b2", "begin 1 while 2 3 repeat": "b1 a6 14+8 a7 a8 13-7 b2",
		"begin while while repeat then": "b1 14+10 14+6 13-7 b2 b2", "begin while while repeat else then": "b1 14+13 14+6 13-7 b2 13+4 b2 b2",
		"do loop": "17+5 15-1", "?do loop": "18+5 15-1", "do +loop": "17+5 16-1", "?do +loop": "18+5 16-1",
		"do i loop": "17+6 19 15-2", "do leave +loop": "17+6 1b 16-2", "do leave leave loop": "17+7 1b 1b 15-3",
		"do ?do leave loop leave +loop": "17+13 18+6 1b 15-2 1b 16-9", "do if leave then loop": "17+10 14+4 1b b2 15-6",
		"case endcase": "c4 c5", "case of endof endcase": "c4 1c+5 c6+3 c5", "case 1 of 2 endof 3 endcase": "c4 a6 1c+6 a7 c6+4 a8 c5",
		"case 1 of endof 2 of endof endcase":                   "c4 a6 1c+5 c6+10 a7 1c+5 c6+3 c5",
		"case of case of endof endcase endof endcase":          "c4 1c+13 c4 1c+5 c6+3 c5 c6+3 c5",
		"case of endof case of endof endcase of endof endcase": "c4 1c+5 c6+17 c4 1c+5 c6+3 c5 1c+5 c6+3 c5",
		"case of if endof then endcase":                        "c4 1c+8 14+6 c6+4 b2 c5",
		// What is open is open by its kind alone: one kind doesn't close another one, nor stand in its way.
		"if begin then again": "14+4 b1 b2 13-2", "begin if again then": "b1 14+6 13-4 b2", "begin do until loop": "b1 17+8 14-4 15-4",
		"do if loop then": "17+8 14+6 15-4 b2", "case do endcase loop": "c4 17+6 c5 15-2", "do case loop of endof endcase": "17+6 c4 15-2 1c+5 c6+3 c5", "if begin else until then": "14+7 b1 13+7 b2 14-5 b2",
		"case of do endof loop endcase": "c4 1c+8 17+8 c6+6 15-4 c5", "case if endcase then": "c4 14+4 c5 b2", "begin case again endcase": "b1 c4 13-2 c5",
	} {
		gives(t, ": x "+body+" ;", `b6"x"=800 b7 `+want+" c2")
		// An offset hangs on nothing that stands ahead.
		gives(t, `" ahead" : y if exit then ; 7 : x `+body+" ; x", `12"ahead" b6"y"=800 b7 14+4 33 b2 c2 10=7 b6"x"=801 b7 `+want+" c2 801")
	}
}

// P15.1: that an offset passes a byte, and that it is counted in bytes, not in tokens.
func TestFarBranches(t *testing.T) {
	for _, n := range []int{120, 124, 125, 126, 127, 128, 129, 250, 255, 256, 257, 700} {
		much := strings.Repeat("i ", n)
		l := strings.Repeat("19 ", n)
		gives(t, ": x if "+much+"then ;", fmt.Sprintf(`b6"x"=800 b7 14%+d %sb2 c2`, n+3, l))
		gives(t, ": x begin "+much+"until ;", fmt.Sprintf(`b6"x"=800 b7 b1 %s14%+d c2`, l, -n-1))
		gives(t, ": x do "+much+"loop ;", fmt.Sprintf(`b6"x"=800 b7 17%+d %s15%+d c2`, n+5, l, -n-1))
		gives(t, ": x case of "+much+"endof "+much+"endcase ;", fmt.Sprintf(`b6"x"=800 b7 c4 1c%+d %sc6%+d %sc5 c2`, n+5, l, n+3, l))
	}
	// The farthest that a text comes to.
	n := (api.MaxText - len(": x begin until ;")) / 2
	gives(t, ": x begin "+strings.Repeat("4 ", n)+"until ;", fmt.Sprintf(`b6"x"=800 b7 b1 %s14%+d c2`, strings.Repeat("10=4 ", n), -5*n-1))
	n = (api.MaxText - len(": x do loop ;")) / 2
	gives(t, ": x do "+strings.Repeat("4 ", n)+"loop ;", fmt.Sprintf(`b6"x"=800 b7 17%+d %s15%+d c2`, 5*n+5, strings.Repeat("10=4 ", n), -5*n-1))
}

// P15.1: what layer 6 passes over, and great letters.
func TestBlanksAndRemarks(t *testing.T) {
	for _, text := range []string{"", " ", "\x00\t\n\r ", "\\ zz then", "( zz then )", "( a) \\ b\n ( c)", strings.Repeat(" ", api.MaxText)} {
		gives(t, text, "")
	}
	gives(t, "\n: \\ name\n X ( -- )\tDUP\x00* ;\r7 x", `b6"x"=800 b7 47 20 c2 10=7 800`)
	gives(t, "' ( which) dup to \\ where\n dup : x BEGIN ['] ( a ) DUP Until ;", `11=47 c3=47 b6"x"=800 b7 b1 11=47 14-3 c2`)
}

// P1: two answers share nothing, nor is anything kept.
func TestAnswersAreNew(t *testing.T) {
	for _, text := range []string{"", "5", `: x if " abc" else ." d" then ; x`, "5 constant c c ' c : c c ; c", strings.Repeat("dup ", 500)} {
		one, _ := fcc.Tokens(text)
		two, _ := fcc.Tokens(text)
		was := told(two)
		clear(one[:cap(one)])
		if three, e := fcc.Tokens(text); told(two) != was || told(three) != was || e != api.OK {
			t.Errorf("%.60q: %s and %s; want %s", text, told(two), told(three), was)
		}
		a, _ := fcc.Compile(text)
		b, _ := fcc.Compile(text)
		kept := bytes.Clone(b)
		clear(a[:cap(a)])
		if c, e := fcc.Compile(text); !bytes.Equal(b, kept) || !bytes.Equal(c, kept) || e != api.OK {
			t.Errorf("%.60q: %x and %x; want %x", text, b, c, kept)
		}
	}
	// What one text defines isn't known to the next one.
	gives(t, ": zz ; zz", `b6"zz"=800 b7 c2 800`)
	errs(t, "zz", api.ErrWord)
	gives(t, ": yy ; yy", `b6"yy"=800 b7 c2 800`)
}
