package lex_test

import (
	"slices"
	"strconv"
	"strings"
	"testing"
	"unsafe"

	"sluice/api"
	"sluice/lex"
)

func words() []string {
	return []string{"int", "lock", "unlock", "thread", "if", "else", "while", "print", "fence", "cas"}
}

func signs() []string {
	return []string{"+", "-", "*", "<", "<=", ">", ">=", "==", "!=", "&&", "||", "!", "(", ")", "{", "}", ";", ",", "="}
}

func name(at int, text string) api.Token { return api.Token{Kind: 1, At: at, Text: text} }
func word(at int, text string) api.Token { return api.Token{Kind: 2, At: at, Text: text} }
func sign(at int, text string) api.Token { return api.Token{Kind: 4, At: at, Text: text} }
func number(at int, text string, n int) api.Token {
	return api.Token{Kind: 3, Num: n, At: at, Text: text}
}

func syntaxAt(at int) api.Fault { return api.Fault{Code: api.ErrSyntax, At: at} }
func runeAt(at int) api.Fault   { return api.Fault{Code: api.ErrRune, At: at} }

// read holds the tokens of a text that has no fault.
func read(t *testing.T, text string, want ...api.Token) {
	t.Helper()
	got, f := lex.Scan(text)
	if f != (api.Fault{}) || !slices.Equal(got, want) {
		t.Errorf("%q: %v %v, want %v", text, got, f, want)
	}
}

// refused holds the fault of a text, beside which nothing is told.
func refused(t *testing.T, text string, want api.Fault) {
	t.Helper()
	got, f := lex.Scan(text)
	if f != want || len(got) != 0 {
		t.Errorf("%q: %v %v, want %v", text, got, f, want)
	}
}

// asTheOracle holds all that is told of a text against the second writing.
func asTheOracle(t *testing.T, text string, all []pattern) {
	t.Helper()
	want, fault := scanned(text, all)
	if fault.Code != api.OK {
		refused(t, text, fault)
		return
	}
	read(t, text, want...)
}

// H1, H2: a text as they are written.
func TestProgram(t *testing.T) {
	read(t, "int x;\nthread {\n\tx = 12+_y1; // add\n}\n",
		word(0, "int"), name(4, "x"), sign(5, ";"),
		word(7, "thread"), sign(14, "{"),
		name(17, "x"), sign(19, "="), number(21, "12", 12), sign(23, "+"), name(24, "_y1"), sign(27, ";"),
		sign(36, "}"))
}

// H1: which bytes can stand, alone, behind a token, and in a note.
func TestBytes(t *testing.T) {
	for b := range 256 {
		s := string([]byte{byte(b)})
		stands := b >= 32 && b <= 126 || b == 9 || b == 10 || b == 13
		if !stands {
			refused(t, s, runeAt(0))
			refused(t, "ab "+s, runeAt(3))
			refused(t, "ab"+s+"c", runeAt(2))
			refused(t, "12"+s, runeAt(2))
			refused(t, "<"+s, runeAt(1))
			refused(t, "a//"+s, runeAt(3))
			refused(t, "a// "+s+"\nb", runeAt(4))
			continue
		}
		if s == "\n" {
			read(t, "a// "+s+"b", name(0, "a"), name(5, "b"))
			continue
		}
		read(t, "a//"+s, name(0, "a"))
		read(t, "a// "+s+"\nb", name(0, "a"), name(6, "b"))
	}
}

// H2, H3: what a byte is, if it stands alone.
func TestBytesAlone(t *testing.T) {
	for b := byte(32); b <= 126; b++ {
		s := string([]byte{b})
		switch {
		case s == " ":
			read(t, s)
		case slices.Contains(signs(), s):
			read(t, s, sign(0, s))
		case b >= '0' && b <= '9':
			read(t, s, number(0, s, int(b-'0')))
		case b >= 'a' && b <= 'z', s == "_":
			read(t, s, name(0, s))
		default:
			refused(t, s, syntaxAt(0))
			refused(t, "ab"+s+"c", syntaxAt(2))
		}
	}
}

// H1: what parts tokens, and is no more.
func TestParted(t *testing.T) {
	for _, gap := range []string{" ", "\t", "\r", "\n", "\r\n", "  \t\n\r ", "//\n", "// x\n", "//\r\n", "//////\n", "// a // b\n", " // a\n // b\n\t", "//A \" # $ & ' . / 00 | ~ abcdefghijklmnop 1234567890\n"} {
		n := len(gap)
		read(t, gap)
		read(t, "a"+gap, name(0, "a"))
		read(t, gap+"a", name(n, "a"))
		read(t, "a"+gap+"b", name(0, "a"), name(n+1, "b"))
		read(t, "1"+gap+"2", number(0, "1", 1), number(n+1, "2", 2))
		read(t, "0"+gap+"2", number(0, "0", 0), number(n+1, "2", 2))
		read(t, "in"+gap+"t", name(0, "in"), name(n+2, "t"))
		read(t, "<"+gap+"=", sign(0, "<"), sign(n+1, "="))
		refused(t, "&"+gap+"&", syntaxAt(0))
	}
	read(t, "")
	read(t, "//")
	read(t, "a//", name(0, "a"))
	read(t, "a//b", name(0, "a"))
	read(t, "a// b\rc", name(0, "a")) // a line ends with a line feed alone
	read(t, "<//=\n=", sign(0, "<"), sign(5, "="))
	read(t, "1//", number(0, "1", 1))
	read(t, "*//*", sign(0, "*"))
}

// H1: MaxText bytes, ahead of all else.
func TestLength(t *testing.T) {
	size := api.Fault{Code: api.ErrSize}
	read(t, strings.Repeat(" ", 4000))
	read(t, strings.Repeat(" ", 3999)+"a", name(3999, "a"))
	read(t, "a//"+strings.Repeat("b", 3997), name(0, "a"))
	refused(t, strings.Repeat(" ", 3999)+"&", syntaxAt(3999))
	refused(t, strings.Repeat("b", 4000), syntaxAt(0))
	for _, one := range []string{" ", "\n", "a", "0", "7", "+", "&", "/", "~", "\x00", "\xff"} {
		refused(t, strings.Repeat(one, 4001), size)
		refused(t, strings.Repeat(" ", 4000)+one, size)
		refused(t, one+strings.Repeat(" ", 4000), size)
	}
	refused(t, strings.Repeat("é", 40000), size)
	many, f := lex.Scan(strings.Repeat(";", 4000))
	if f != (api.Fault{}) || len(many) != 4000 || many[3999] != sign(3999, ";") {
		t.Error(len(many), f)
	}
}

// H2: words, and names that have one in them.
func TestWords(t *testing.T) {
	for _, w := range words() {
		n := len(w)
		read(t, w, word(0, w))
		read(t, " "+w+";", word(1, w), sign(n+1, ";"))
		read(t, w+"("+w+")", word(0, w), sign(n, "("), word(n+1, w), sign(2*n+1, ")"))
		read(t, "1"+w, number(0, "1", 1), word(1, w))
		for _, more := range []string{"a", "z", "_", "0", "9", "int"} {
			read(t, w+more, name(0, w+more))
		}
		for _, more := range []string{"a", "z", "_", "int"} {
			read(t, more+w, name(0, more+w))
		}
		read(t, w[:n-1], name(0, w[:n-1]))
		read(t, w[1:], name(0, w[1:]))
		refused(t, strings.ToUpper(w), syntaxAt(0))
		refused(t, strings.ToUpper(w[:1])+w[1:], syntaxAt(0))
		refused(t, w+"A", syntaxAt(n))
	}
	for _, s := range []string{"for", "return", "true", "then", "do", "store", "name", "program"} {
		read(t, s, name(0, s))
	}
}

// H2, H3: names, as long as they may be and longer.
func TestNames(t *testing.T) {
	for _, s := range []string{"a", "z", "_", "__", "_0", "a0", "z9", "a_b", "x1y2_", "abcdefghijkl", "____________", "a00000000000", "_12345678901"} {
		read(t, s, name(0, s))
		read(t, "("+s+")", sign(0, "("), name(1, s), sign(len(s)+1, ")"))
	}
	for _, s := range []string{"abcdefghijklm", "_____________", "a000000000000", "unlockunlock1", strings.Repeat("x", 100)} {
		refused(t, s, syntaxAt(0))
		refused(t, "a "+s, syntaxAt(2))
		refused(t, "12"+s, syntaxAt(2))
		refused(t, "a;"+s+";b", syntaxAt(2))
	}
	for _, s := range []string{"A", "Z", "@", "[", "`", "^"} {
		refused(t, "ab"+s, syntaxAt(2))
	}
}

// H2, H3: numbers, as long as they may be and longer.
func TestNumbers(t *testing.T) {
	for _, n := range []int{0, 1, 9, 10, 19, 90, 100, 123456789, 100000000, 999999999} {
		s := strconv.Itoa(n)
		read(t, s, number(0, s, n))
		read(t, "-"+s, sign(0, "-"), number(1, s, n))
		read(t, s+"a", number(0, s, n), name(len(s), "a"))
		read(t, s+"_0", number(0, s, n), name(len(s), "_0"))
		refused(t, s+".5", syntaxAt(len(s)))
	}
	read(t, "0x1", number(0, "0", 0), name(1, "x1"))
	for _, s := range []string{
		"00", "01", "07", "000", "012", "000000000", "012345678", "0000000000", "0000000001",
		"1000000000", "1234567890", "9999999999", "9223372036854775807", "9223372036854775808", "18446744073709551616", strings.Repeat("9", 300),
	} {
		refused(t, s, syntaxAt(0))
		refused(t, "x="+s, syntaxAt(2))
		refused(t, s+"x", syntaxAt(0))
		refused(t, "a<"+s+";1", syntaxAt(2))
	}
}

// H2: signs, the longest that can stand, whatever stands behind.
func TestSigns(t *testing.T) {
	for _, s := range signs() {
		n := len(s)
		read(t, s, sign(0, s))
		read(t, "a"+s+"b", name(0, "a"), sign(1, s), name(n+1, "b"))
		read(t, "1"+s+"2", number(0, "1", 1), sign(1, s), number(n+1, "2", 2))
		read(t, s+" "+s, sign(0, s), sign(n+1, s))
		refused(t, s+"&", syntaxAt(n))
		refused(t, s+"|", syntaxAt(n))
		refused(t, s+"/", syntaxAt(n))
	}
	read(t, "===", sign(0, "=="), sign(2, "="))
	read(t, "====", sign(0, "=="), sign(2, "=="))
	read(t, "!==", sign(0, "!="), sign(2, "="))
	read(t, "!!=", sign(0, "!"), sign(1, "!="))
	read(t, "<=>", sign(0, "<="), sign(2, ">"))
	read(t, "<<=", sign(0, "<"), sign(1, "<="))
	read(t, ">>", sign(0, ">"), sign(1, ">"))
	read(t, "=>", sign(0, "="), sign(1, ">"))
	read(t, "=<", sign(0, "="), sign(1, "<"))
	read(t, "++", sign(0, "+"), sign(1, "+"))
	read(t, "+=", sign(0, "+"), sign(1, "="))
	read(t, "->", sign(0, "-"), sign(1, ">"))
	read(t, "&&&&", sign(0, "&&"), sign(2, "&&"))
	read(t, "||&&", sign(0, "||"), sign(2, "&&"))
	read(t, "(){};,", sign(0, "("), sign(1, ")"), sign(2, "{"), sign(3, "}"), sign(4, ";"), sign(5, ","))
}

// H3: bytes that begin no token.
func TestNoToken(t *testing.T) {
	for _, x := range []struct {
		text string
		at   int
	}{
		{"&", 0}, {"|", 0}, {"&|", 0}, {"|&", 0}, {"& &", 0}, {"&=", 0},
		{"&&&", 2}, {"|||", 2}, {"&&|", 2}, {"a&b", 1}, {"a|b", 1},
		{"/", 0}, {"a/b", 1}, {"a /", 2}, {"/ /", 0}, {"/\n/", 0}, {"///\n/", 4}, {"/*a*/", 0}, {"a\n/", 2},
		{"\"a\"", 0}, {"'a'", 0}, {"a#b", 1}, {"x = $", 4}, {"a%2", 1}, {"x[1]", 1}, {"a.b", 1}, {"a:b", 1}, {"a?b", 1}, {"@", 0}, {"\\", 0}, {"^", 0}, {"`", 0}, {"~", 0},
	} {
		refused(t, x.text, syntaxAt(x.at))
	}
}

// H3: the first fault from the left, whichever it is.
func TestFirstFault(t *testing.T) {
	for _, x := range []struct {
		text string
		want api.Fault
	}{
		{"& \x00", syntaxAt(0)},
		{"\x00 &", runeAt(0)},
		{"&\x00", syntaxAt(0)},
		{"/\xff", syntaxAt(0)},
		{"a \x7f 00", runeAt(2)},
		{"00 \x7f", syntaxAt(0)},
		{"00\x7f", syntaxAt(0)},
		{"0\x7f", runeAt(1)},
		{"1234567890é", syntaxAt(0)},
		{"123456789é", runeAt(9)},
		{"abcdefghijklmé", syntaxAt(0)},
		{"abcdefghijklé", runeAt(12)},
		{"abcdefghijklA", syntaxAt(12)},
		{"abcdefghijklm&", syntaxAt(0)},
		{"// é\n&", runeAt(3)},
		{"& // é", syntaxAt(0)},
		{"//&\n00//é", syntaxAt(4)},
		{"//&\n0//é", runeAt(7)},
		{"a // b\n// \x01\nabcdefghijklmn", runeAt(10)},
		{"<=\x00", runeAt(2)},
		{"&&\x00", runeAt(2)},
		{"x = 07; y = 1234567890;", syntaxAt(4)},
		{"1234567890 07", syntaxAt(0)},
		{"é é", runeAt(0)},
		{"\v", runeAt(0)},
		{"a\f", runeAt(1)},
		{"\u00a0a", runeAt(0)},
		{"\ufeffint", runeAt(0)},
		{"a\u2028b", runeAt(1)},
	} {
		refused(t, x.text, x.want)
	}
}

// H1 to H3: all texts of one and of two bytes, each behind nothing, a token, a note's begin.
func TestPairsOfBytes(t *testing.T) {
	all := patterns()
	for a := range 256 {
		asTheOracle(t, string([]byte{byte(a)}), all)
		for b := range 256 {
			s := string([]byte{byte(a), byte(b)})
			asTheOracle(t, s, all)
			asTheOracle(t, "if"+s+"0", all)
			asTheOracle(t, "// "+s+"=", all)
		}
	}
}

// H1 to H3: all short texts of few bytes.
func TestShortTexts(t *testing.T) {
	all := patterns()
	const few = "if0 9_/\n&|=<!\x80A"
	var grow func(text string)
	grow = func(text string) {
		asTheOracle(t, text, all)
		if len(text) < 4 {
			for i := range len(few) {
				grow(text + few[i:i+1])
			}
		}
	}
	grow("")
}

// H1 to H3: generated texts, some with faults, against the second writing.
func TestGenerated(t *testing.T) {
	all := patterns()
	d := dice(8)
	good := slices.Concat(words(), signs(), signs(), []string{" ", "\t", "\r", "\n", "\n", "// a &\n", "//\n", "x", "_", "abcdefghijkl", "y1", "0", "7", "10", "123456789", "999999999"})
	bad := []string{"00", "1234567890", "abcdefghijklm", "&", "|", "/", "A", "#", "\x00", "\x7f", "é", "// é\n", "//", "unlock", "012"}
	fine := 0
	for range 30000 {
		var text strings.Builder
		for range d.below(20) {
			piece := good[d.below(len(good))]
			if d.below(40) == 0 {
				piece = bad[d.below(len(bad))]
			}
			text.WriteString(piece)
			if d.below(2) == 0 {
				text.WriteString(" ")
			}
		}
		asTheOracle(t, text.String(), all)
		if _, f := lex.Scan(text.String()); f.Code == api.OK {
			fine++
		}
	}
	if fine < 5000 || fine > 25000 {
		t.Errorf("%d texts without a fault: too few of one kind to tell anything", fine)
	}
}

// H2: what stands between tokens parts them: the same tokens come, whatever it is.
func TestAnyGap(t *testing.T) {
	d := dice(9)
	tokens := slices.Concat(words(), signs(), []string{"x", "_", "abcdefghijkl", "y1", "0", "10", "999999999"})
	gaps := []string{" ", "\t", "\r", "\n", "//\n", " // x + 1 &\r\n"}
	for range 2000 {
		var text string
		var list []string
		var places []int
		for range d.below(12) {
			s := tokens[d.below(len(tokens))]
			text += gaps[d.below(len(gaps))]
			list, places = append(list, s), append(places, len(text))
			text += s
		}
		got, f := lex.Scan(text)
		if f != (api.Fault{}) || len(got) != len(list) {
			t.Fatalf("%q: %v %v", text, got, f)
		}
		for i, token := range got {
			if token.Text != list[i] || token.At != places[i] {
				t.Errorf("%q: token %d is %v, want %q at %d", text, i, token, list[i], places[i])
			}
		}
	}
}

// P3: what comes out shares no memory with the text, nor with another answer; the same text is told the same.
func TestNothingIsShared(t *testing.T) {
	text := strings.Clone("while (abc <= 120) { abc = abc + 1; } // abc")
	first, _ := lex.Scan(text)
	second, _ := lex.Scan(text)
	if len(first) == 0 || !slices.Equal(first, second) {
		t.Fatal(first, second)
	}
	from := uintptr(unsafe.Pointer(unsafe.StringData(text)))
	for _, token := range first {
		at := uintptr(unsafe.Pointer(unsafe.StringData(token.Text)))
		if at >= from && at < from+uintptr(len(text)) {
			t.Errorf("%v is a piece of the text", token)
		}
	}
	want := slices.Clone(second)
	first[0], first[1].Text = api.Token{}, "other"
	if !slices.Equal(second, want) {
		t.Error(second)
	}
}
