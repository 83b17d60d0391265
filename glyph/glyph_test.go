package glyph

import (
	"regexp"
	"slices"
	"strings"
	"testing"
	"unsafe"

	"tumbrel/api"
)

// pos is a place, short to write.
func pos(line, col int) api.Pos { return api.Pos{Line: line, Col: col} }

// wantWords fails unless Words answers just these words, with no place and no error.
func wantWords(t *testing.T, s string, want ...Word) {
	t.Helper()
	if l, p, e := Words(s); !slices.Equal(l, want) || p != (api.Pos{}) || e != api.OK {
		t.Errorf("Words(%.60q) = %v %v %v, want %v", s, l, p, e, want)
	}
}

// wantError fails unless Words answers the error and its place, and no words.
func wantError(t *testing.T, s string, at api.Pos, want api.Errno) {
	t.Helper()
	if l, p, e := Words(s); len(l) != 0 || p != at || e != want {
		t.Errorf("Words(%.60q) = %d words, %v, %v; want %v %v", s, len(l), p, e, at, want)
	}
}

// wantTexts fails unless the words of s have these kinds and texts, each told as "1a", "23" or "3<=".
func wantTexts(t *testing.T, s string, want ...string) {
	t.Helper()
	l, _, e := Words(s)
	if got := told(l); !slices.Equal(got, want) || e != api.OK {
		t.Errorf("Words(%.60q) = %q %v, want %q", s, got, e, want)
	}
}

// told is each word's kind and text.
func told(l []Word) []string {
	var list []string
	for _, w := range l {
		list = append(list, string(rune('0'+w.Kind))+w.Text)
	}
	return list
}

// P3.1: Letter at both ends of each range, and beside them.
func TestLetter(t *testing.T) {
	for _, r := range []rune{'a', 'b', 'm', 'y', 'z', 'A', 'B', 'M', 'Y', 'Z', 0x430, 0x431, 0x440, 0x44e, 0x44f} {
		if !Letter(r) {
			t.Errorf("%U is a letter", r)
		}
	}
	for _, r := range []rune{'a' - 1, 'z' + 1, 'A' - 1, 'Z' + 1, 0x42f, 0x450, 0x451, 0x410, '_', '0', '9', ' ', '\n', 0, 0xe9, 0xff, 0x100 + 'a', 0x10000 + 'a', 0x10430, 0xfffd, 0x10ffff, 0x110000, 1<<31 - 1, -1, -1 << 31} {
		if Letter(r) {
			t.Errorf("%U is no letter", r)
		}
	}
}

// P3.1: Letter is its three ranges, for all runes.
func TestLetterCount(t *testing.T) {
	count := 0
	for r := rune(-300); r <= 0x110100; r++ {
		if Letter(r) {
			count++
		}
	}
	if count != 26+26+32 {
		t.Errorf("%d letters", count)
	}
}

// P3.1: Name of what is one: 1 to MaxName runes, however many bytes these have.
func TestNames(t *testing.T) {
	for _, s := range []string{
		"a", "z", "A", "Z", "\u0430", "\u044f", "a1", "a_", "a__", "z0", "z9", "a_1_b", "aя1Z_", "chart", "state",
		strings.Repeat("a", api.MaxName), strings.Repeat("я", api.MaxName),
		"a" + strings.Repeat("_", api.MaxName-1), "Z" + strings.Repeat("9", api.MaxName-1),
	} {
		if !Name(s) {
			t.Errorf("%q is a name", s)
		}
	}
}

// P3.1: Name of what is none.
func TestNoNames(t *testing.T) {
	for _, s := range []string{
		"", "1", "1a", "0", "_", "_a", " ", " a", "a ", "a b", "a\n", "\na", "a#", "#", "+", "a+b", "a-", "a.b",
		"é", "aé", "\u042f", "a\u042f", "\u0450", "a\u0451", "a\u0660", "\xff", "a\xff", "\xffa", "a\xd1", "\xd1", "a\xc1\xa1", "a\x00", "\ufffd", "a\ufffd",
		strings.Repeat("a", api.MaxName+1), strings.Repeat("я", api.MaxName+1), strings.Repeat("a", 100000),
		"a" + strings.Repeat("_", api.MaxName), "a" + strings.Repeat("1", api.MaxName), "1" + strings.Repeat("a", api.MaxName-1),
	} {
		if Name(s) {
			t.Errorf("%.60q is no name", s)
		}
	}
}

// P3.1: the place behind a text.
func TestEnd(t *testing.T) {
	for s, want := range map[string]api.Pos{
		"":               pos(1, 1),
		"a":              pos(1, 2),
		"\n":             pos(2, 1),
		"a\n":            pos(2, 1),
		"\n\n\n":         pos(4, 1),
		"\na":            pos(2, 2),
		"ab\n\ncde":      pos(3, 4),
		"я":              pos(1, 2),
		"яé\u20ac":       pos(1, 4),
		"\U0001f600":     pos(1, 2),
		"\xff":           pos(1, 2),
		"\xff\xfe\n\xff": pos(2, 2),
		"\xd1":           pos(1, 2),
		"a\nя\xff":       pos(2, 3),
		"\xe2\x82":       pos(1, 3),
		"\xed\xa0\x80":   pos(1, 4),
		"\xc0\x8a":       pos(1, 3),
		"\xd1\n":         pos(2, 1),
		"\ufffd":         pos(1, 2),
		"\r":             pos(1, 2),
		"\r\n\t":         pos(2, 2),
		"\v\f\u0085":     pos(1, 4),
		"\u2028a":        pos(1, 3),
		"# no words &":   pos(1, 13),
		"\x00":           pos(1, 2),
	} {
		if got := End(s); got != want {
			t.Errorf("End(%q) = %v, want %v", s, got, want)
		}
	}
	// End has no limit of its own.
	if got := End(strings.Repeat("я\n", 50000) + strings.Repeat("\xff", 50000)); got != pos(50001, 50001) {
		t.Error(got)
	}
}

// P3.1: each sign, alone and between other words, and that there is no other.
func TestSigns(t *testing.T) {
	signs := strings.Fields("{ } ( ) = == != ! < <= + - * && ||")
	for _, s := range signs {
		wantWords(t, s, Word{3, s, pos(1, 1)})
		wantWords(t, "a"+s+"1", Word{1, "a", pos(1, 1)}, Word{3, s, pos(1, 2)}, Word{2, "1", pos(1, 2+len(s))})
	}
	for c := range rune(0x500) {
		s := string(c)
		if slices.Contains(signs, s) || strings.ContainsRune(" \t\n#0123456789", c) || Letter(c) {
			continue
		}
		wantError(t, s, pos(1, 1), api.ErrWord)
		wantError(t, "a "+s+"b", pos(1, 3), api.ErrWord)
	}
}

// P3.1: a sign is as long as may be.
func TestLongestSignFirst(t *testing.T) {
	wantTexts(t, "===", "3==", "3=")
	wantTexts(t, "====", "3==", "3==")
	wantTexts(t, "= =", "3=", "3=")
	wantTexts(t, "!==", "3!=", "3=")
	wantTexts(t, "!!=", "3!", "3!=")
	wantTexts(t, "! =", "3!", "3=")
	wantTexts(t, "<==", "3<=", "3=")
	wantTexts(t, "<<=", "3<", "3<=")
	wantTexts(t, "<\n=", "3<", "3=")
	wantTexts(t, "=<", "3=", "3<")
	wantTexts(t, "=!", "3=", "3!")
	wantTexts(t, "&&&&", "3&&", "3&&")
	wantTexts(t, "||||", "3||", "3||")
	wantTexts(t, "<-", "3<", "3-")
	wantTexts(t, "++--**", "3+", "3+", "3-", "3-", "3*", "3*")
	wantTexts(t, "(){}", "3(", "3)", "3{", "3}")
}

// P3.1: halves of signs begin no word.
func TestHalfSigns(t *testing.T) {
	for s, col := range map[string]int{
		"&": 1, "|": 1, "& ": 1, "& &": 1, "&\n&": 1, "&|": 1, "|&": 1, "&#&": 1, "&&&": 3, "|||": 3, "a&b": 2, "1|2": 2, "&=": 1,
		">": 1, ">=": 1, "a > b": 3, "<>": 2, "=>": 2, "/": 1, "%": 1, "^": 1, "~": 1, ";": 1, ",": 1, ".": 1, "\"": 1, "'": 1, "[": 1, "]": 1, "_": 1, "_a": 1, "a _": 3,
	} {
		wantError(t, s, pos(1, col), api.ErrWord)
	}
}

// P3.1: numbers of 1 to 10 digits, up to MaxInt.
func TestNumbers(t *testing.T) {
	for _, s := range []string{"0", "1", "2", "3", "4", "5", "6", "7", "8", "9", "10", "90", "100", "123456789", "999999999", "1000000000"} {
		wantWords(t, s, Word{2, s, pos(1, 1)})
		wantWords(t, "\t"+s+"+", Word{2, s, pos(1, 2)}, Word{3, "+", pos(1, 2+len(s))})
	}
	wantTexts(t, "0 0 1", "20", "20", "21")
	wantTexts(t, "-1", "3-", "21")
	wantTexts(t, "1-0", "21", "3-", "20")
}

// P3.1: digits that are too long or not right are told at their first.
func TestWrongNumbers(t *testing.T) {
	for _, s := range []string{
		"00", "01", "007", "000", "0000000000", "0000000001", "00000000001", "0123456789",
		"1000000001", "1000000010", "1999999999", "2000000000", "4294967296", "4294967297", "9999999999",
		"10000000000", "12345678901", "18446744073709551616", "18446744073709551617", "9223372036854775808",
		strings.Repeat("1", 5000), strings.Repeat("0", 5000), "1" + strings.Repeat("0", 5000),
	} {
		wantError(t, s, pos(1, 1), api.ErrWord)
		wantError(t, "a\n я "+s+" b", pos(2, 4), api.ErrWord)
	}
}

// P3.1: behind a number stands no letter, digit or _; what else stands there is the next word, or begins none.
func TestBehindNumbers(t *testing.T) {
	for _, s := range []string{"1a", "1z", "1A", "1Z", "1я", "1а", "1_", "0a", "0_", "12_3", "1a+", "1_a", "1__", "1000000000a", "9a9"} {
		wantError(t, s, pos(1, 1), api.ErrWord)
		wantError(t, "x+"+s, pos(1, 3), api.ErrWord)
	}
	wantTexts(t, "1 a", "21", "1a")
	wantTexts(t, "1#a\n2", "21", "22")
	wantTexts(t, "1{", "21", "3{")
	for _, s := range []string{"1é", "1\xff", "1\xd1", "1.", "1Я", "1\u0661", "1\r"} {
		wantError(t, s, pos(1, 2), api.ErrWord)
	}
}

// P3.1: names of 1 to MaxName runes.
func TestNameWords(t *testing.T) {
	for _, s := range []string{"a", "Z", "я", "а", "a1", "a_", "x_9я", "chart", "if", strings.Repeat("a", api.MaxName), strings.Repeat("я", api.MaxName), "a" + strings.Repeat("_", api.MaxName-1)} {
		wantWords(t, s, Word{1, s, pos(1, 1)})
		wantWords(t, "}"+s+"\n", Word{3, "}", pos(1, 1)}, Word{1, s, pos(1, 2)})
		wantTexts(t, s+" "+s, "1"+s, "1"+s)
	}
	// One is named where it begins, not where it is too long.
	for _, s := range []string{strings.Repeat("a", api.MaxName+1), strings.Repeat("я", api.MaxName+1), "a" + strings.Repeat("1", api.MaxName), "a" + strings.Repeat("_", api.MaxName), strings.Repeat("b", api.MaxSource-7)} {
		wantError(t, s, pos(1, 1), api.ErrWord)
		wantError(t, "x\n\n y "+s, pos(3, 4), api.ErrWord)
	}
	for s, col := range map[string]int{"aé": 2, "a\xff": 2, "aя\xd1": 3, "aЯ": 2, "aё": 2, "a.b": 2, "a\u0661": 2} {
		wantError(t, s, pos(1, col), api.ErrWord)
	}
}

// P3.1: blanks, tabs, line feeds and remarks are no words.
func TestBetween(t *testing.T) {
	for _, s := range []string{"", " ", "\t", "\n", " \t\n\n \t", "#", "##", "# a & 01 \xff", "#\n", "#\n#", "#é\n#\xff\n", "#\r\n", strings.Repeat(" ", api.MaxSource), strings.Repeat("#", api.MaxSource), strings.Repeat("\n", api.MaxSource)} {
		wantWords(t, s)
	}
	for _, gap := range []string{" ", "\t", "\n", "  ", "#\n", "#x\n", "# }\n\t", " # & \xff # \n #\n", "#\n\n\n#\n"} {
		wantTexts(t, "a"+gap+"b", "1a", "1b")
		wantTexts(t, gap+"1"+gap+"="+gap+"="+gap, "21", "3=", "3=")
	}
	wantTexts(t, "a<=1#x", "1a", "3<=", "21")
	wantTexts(t, "a#b\rc\vd", "1a")
	for _, s := range []string{"\r", "\v", "\f", "\u0085", "\u00a0", "\u2003", "\u2028", "\ufeff", "\x00", "\x7f"} {
		wantError(t, s, pos(1, 1), api.ErrWord)
		wantError(t, "a"+s+"\n", pos(1, 2), api.ErrWord)
	}
}

// P3.1: the places of words, counted in runes, a byte that is none's as one.
func TestPlaces(t *testing.T) {
	wantWords(t, "a\n b", Word{1, "a", pos(1, 1)}, Word{1, "b", pos(2, 2)})
	wantWords(t, " a", Word{1, "a", pos(1, 2)})
	wantWords(t, "\t\ta", Word{1, "a", pos(1, 3)})
	wantWords(t, "\na", Word{1, "a", pos(2, 1)})
	wantWords(t, "\n\n\n a\n\n", Word{1, "a", pos(4, 2)})
	wantWords(t, "яя яя=я",
		Word{1, "яя", pos(1, 1)}, Word{1, "яя", pos(1, 4)}, Word{3, "=", pos(1, 6)}, Word{1, "я", pos(1, 7)})
	wantWords(t, "#é\xff\nя#\xff\xff\n  я", Word{1, "я", pos(2, 1)}, Word{1, "я", pos(3, 3)})
	wantWords(t, "я_1<=12\n  &&!x# }\n}",
		Word{1, "я_1", pos(1, 1)}, Word{3, "<=", pos(1, 4)}, Word{2, "12", pos(1, 6)}, Word{3, "&&", pos(2, 3)},
		Word{3, "!", pos(2, 5)}, Word{1, "x", pos(2, 6)}, Word{3, "}", pos(3, 1)})
	wantWords(t, strings.Repeat("#\xff я\n", 1500)+" +", Word{3, "+", pos(1501, 2)})
}

// P3.1: the place of what begins no word, on the first line and behind others.
func TestPlacesOfErrors(t *testing.T) {
	for s, at := range map[string]api.Pos{
		"&":             pos(1, 1),
		"a 01":          pos(1, 3),
		"a\n|":          pos(2, 1),
		"\n\n  &":       pos(3, 3),
		"я \xff":        pos(1, 3),
		"я\xff":         pos(1, 2),
		"\xff\xff":      pos(1, 1),
		"\xe2\x82":      pos(1, 1),
		"#é\xff\n я é":  pos(2, 4),
		"яя=яя>":        pos(1, 6),
		"a # b\n\t1x":   pos(2, 2),
		"\ufffd":        pos(1, 1),
		"a\n\n\xd1\n":   pos(3, 1),
		"a\n\nя\u0450d": pos(3, 2),
	} {
		wantError(t, s, at, api.ErrWord)
	}
}

// P3.1, R6: where more than one thing is wrong, the first along the text is told.
func TestFirstError(t *testing.T) {
	long := strings.Repeat("a", api.MaxName+1)
	wantError(t, "a 01 &", pos(1, 3), api.ErrWord)
	wantError(t, "a & 01", pos(1, 3), api.ErrWord)
	wantError(t, "b "+long+" \xff", pos(1, 3), api.ErrWord)
	wantError(t, "\xff "+long, pos(1, 1), api.ErrWord)
	wantError(t, "1a é\n>", pos(1, 1), api.ErrWord)
	wantError(t, long+"é", pos(1, 1), api.ErrWord)
	wantError(t, "01é", pos(1, 1), api.ErrWord)
	full := strings.Repeat("+", api.MaxWords)
	for _, wrong := range []string{"&", "01", "1a", "1000000001", long, "\xff", "é"} {
		// What is wrong ahead of the word too many, in its place, and behind it: where it isn't a word, it isn't one too many.
		wantError(t, "+\n"+wrong+"\n"+full, pos(2, 1), api.ErrWord)
		wantError(t, full+" "+wrong, pos(1, api.MaxWords+2), api.ErrWord)
		wantError(t, full+" "+wrong+" + +", pos(1, api.MaxWords+2), api.ErrWord)
		wantError(t, full+" + "+wrong, pos(1, api.MaxWords+2), api.ErrLong)
		// Too many bytes are told ahead of all of it.
		wantError(t, wrong+strings.Repeat(" ", api.MaxSource), pos(1, 1), api.ErrLong)
		wantError(t, "\n"+wrong+full+"+"+strings.Repeat(" ", api.MaxSource), pos(1, 1), api.ErrLong)
	}
}

// P3.1: MaxSource is bytes, not runes.
func TestMaxSource(t *testing.T) {
	wantWords(t, strings.Repeat("\n", api.MaxSource-1)+"a", Word{1, "a", pos(api.MaxSource, 1)})
	wantWords(t, "a"+strings.Repeat(" ", api.MaxSource-1), Word{1, "a", pos(1, 1)})
	wantWords(t, strings.Repeat(" ", api.MaxSource-2)+"я", Word{1, "я", pos(1, api.MaxSource-1)})
	wantWords(t, "#"+strings.Repeat("\xff", api.MaxSource-1))
	wantError(t, strings.Repeat(" ", api.MaxSource-1)+"&", pos(1, api.MaxSource), api.ErrWord)
	for _, s := range []string{
		strings.Repeat(" ", api.MaxSource+1),
		strings.Repeat("\n", api.MaxSource+1),
		strings.Repeat(" ", api.MaxSource-1) + "я",
		"#" + strings.Repeat("я", api.MaxSource/2),
		"#" + strings.Repeat("\xff", api.MaxSource),
		strings.Repeat("a ", 1<<20),
	} {
		wantError(t, s, pos(1, 1), api.ErrLong)
	}
}

// P3.1: MaxWords words, and the place of the one too many.
func TestMaxWords(t *testing.T) {
	for _, word := range []string{"+", "a ", "9 ", "<=", "я\n", "a#\n"} {
		s := strings.Repeat(word, api.MaxWords)
		l, p, e := Words(s)
		if len(l) != api.MaxWords || p != (api.Pos{}) || e != api.OK {
			t.Errorf("%q: %d words, %v %v", word, len(l), p, e)
		}
		for _, more := range []string{"b", "0", "}", "&&", "b c &", "0 \xff", "{{{"} {
			wantError(t, s+more, End(s), api.ErrLong)
		}
		wantError(t, s+"\n \t# x\n  b\nc", api.Pos{Line: End(s).Line + 2, Col: 3}, api.ErrLong)
		if l, _, e := Words(s + "\n \t# x"); len(l) != api.MaxWords || e != api.OK {
			t.Errorf("%q: %d words, %v", word, len(l), e)
		}
	}
}

// wantWrittenSame is P3.2 for the words of s.
func wantWrittenSame(t *testing.T, s string) {
	t.Helper()
	l, _, e := Words(s)
	if e != api.OK {
		return
	}
	var b strings.Builder
	var want []Word
	for _, w := range l {
		want = append(want, Word{w.Kind, w.Text, End(b.String())})
		b.WriteString(w.Text + " ")
	}
	// The blanks may make the text longer than P3.1 lets one be.
	if b.Len() > api.MaxSource {
		wantError(t, b.String(), pos(1, 1), api.ErrLong)
		return
	}
	wantWords(t, b.String(), want...)
}

// P3.2: what is written of the words has the same words.
func TestWrittenAgain(t *testing.T) {
	for _, s := range []string{
		"", "a<=1#x", "я_1<=12\n  &&!x# }\n}", "===!==<==&&&&||||!!=<<=", "a+b*-c<3&&!d", "(){}=+-*",
		"chart pay 1 { var n = 0 state A { do take undo give at 0 retries 2 on done if n < 3 go B set n = n + 1 } state B { end } }",
		strings.Repeat("a=", 1500), strings.Repeat("+", api.MaxWords), strings.Repeat("я ", api.MaxWords), strings.Repeat("a", api.MaxName) + "=1000000000",
		strings.Repeat("aa+b*", api.MaxWords/4), strings.Repeat(strings.Repeat("a", api.MaxName)+"+", api.MaxSource/(api.MaxName+1)),
	} {
		if _, _, e := Words(s); e != api.OK {
			t.Errorf("%.40q: %v", s, e)
		}
		wantWrittenSame(t, s)
	}
}

// The chapter's sentences on words, as expressions; a wrong name or number is taken whole, and told.
var (
	wordsGap    = regexp.MustCompile(`^([ \t\n]|#[^\n]*)+`)
	wordsRun    = regexp.MustCompile(`^[a-zA-Z\x{430}-\x{44F}0-9][a-zA-Z\x{430}-\x{44F}0-9_]*`)
	wordsName   = regexp.MustCompile(`^[a-zA-Z\x{430}-\x{44F}][a-zA-Z\x{430}-\x{44F}0-9_]{0,23}$`)
	wordsNumber = regexp.MustCompile(`^(0|[1-9][0-9]{0,8}|1000000000)$`)
	wordsSign   = regexp.MustCompile(`^(==|!=|<=|&&|\|\||[{}()=!<+*-])`)
)

// wordsPlace counts line feeds and runes by splitting what is ahead.
func wordsPlace(ahead string) api.Pos {
	lines := strings.Split(ahead, "\n")
	return pos(len(lines), len([]rune(lines[len(lines)-1]))+1)
}

// wordsWords is what Words should answer, by the expressions.
func wordsWords(s string) ([]Word, api.Pos, api.Errno) {
	if len(s) > api.MaxSource {
		return nil, pos(1, 1), api.ErrLong
	}
	var l []Word
	at := 0
	for {
		at += len(wordsGap.FindString(s[at:]))
		if at == len(s) {
			return l, api.Pos{}, api.OK
		}
		kind, text := 3, wordsSign.FindString(s[at:])
		if run := wordsRun.FindString(s[at:]); wordsName.MatchString(run) {
			kind, text = 1, run
		} else if wordsNumber.MatchString(run) {
			kind, text = 2, run
		}
		if text == "" {
			return nil, wordsPlace(s[:at]), api.ErrWord
		}
		if len(l) == api.MaxWords {
			return nil, wordsPlace(s[:at]), api.ErrLong
		}
		l = append(l, Word{kind, text, wordsPlace(s[:at])})
		at += len(text)
	}
}

// wantByTheWords holds all calls against the chapter's sentences, for one text.
func wantByTheWords(t *testing.T, s string) {
	t.Helper()
	l, p, e := Words(s)
	wl, wp, we := wordsWords(s)
	if !slices.Equal(l, wl) || p != wp || e != we {
		t.Errorf("Words(%.60q) = %v %v %v, want %v %v %v", s, l, p, e, wl, wp, we)
	}
	if End(s) != wordsPlace(s) {
		t.Errorf("End(%.60q) = %v, want %v", s, End(s), wordsPlace(s))
	}
	if Name(s) != wordsName.MatchString(s) {
		t.Errorf("Name(%.60q) = %v", s, Name(s))
	}
	wantWrittenSame(t, s)
}

// P3.1, P3.2: every text of up to four of these pieces.
func TestByTheWords(t *testing.T) {
	pieces := []string{"a", "я", "_", "0", "1", "=", "!", "<", "&", "|", "+", "{", " ", "\n", "#", "\xff", "é", "1000000000", strings.Repeat("Z", api.MaxName-1)}
	list := []string{""}
	for size := 0; size <= 4; size++ {
		var longer []string
		for _, s := range list {
			wantByTheWords(t, s)
			if size < 4 {
				for _, p := range pieces {
					longer = append(longer, s+p)
				}
			}
		}
		list = longer
	}
}

// P3.1, P3.2, R1: long texts of pieces that aren't alike, the same ones each time.
func TestByTheWordsLong(t *testing.T) {
	pieces := []string{"a", "b1 ", "яя", "_", " ", " ", "\n", "\n", " 12 ", " 0 ", "==", "= ", "!", "<", "<=", "&&", "|| ", "+", "-", "*", "(", ")", "{ ", "} ", "#", "# \xffé\n", "я_я ", "999 ", "\t", "\xff", "&", "01"}
	x := uint32(7)
	for round := range 600 {
		// The last pieces are wrong, or often make what stands beside them so: most rounds do without.
		n := uint32(len(pieces) - 3)
		if round%4 == 0 {
			n = uint32(len(pieces))
		}
		var b strings.Builder
		for range round {
			x = x*1664525 + 1013904223
			b.WriteString(pieces[(x>>8)%n])
		}
		wantByTheWords(t, b.String())
	}
}

// R2, R3: an answer is new memory, its spare room too, and nothing is kept from call to call.
func TestAnswersAreNew(t *testing.T) {
	s := "a <= 1 b"
	first, _, _ := Words(s)
	want := slices.Clone(first)
	second, _, _ := Words(s)
	room := second[:cap(second)]
	for i := range room {
		room[i] = Word{Kind: 9, Text: "x"}
	}
	if third, _, _ := Words(s); !slices.Equal(first, want) || !slices.Equal(third, want) || s != "a <= 1 b" {
		t.Errorf("%v %v", first, third)
	}
}

// R3: a word's text is no piece of the text that was handed in.
func TestTextsAreNew(t *testing.T) {
	s := strings.Clone("name <= 1 я")
	start := uintptr(unsafe.Pointer(unsafe.StringData(s)))
	l, _, _ := Words(s)
	for _, w := range l {
		if at := uintptr(unsafe.Pointer(unsafe.StringData(w.Text))); start <= at && at < start+uintptr(len(s)) {
			t.Errorf("%q is kept of what was handed in", w.Text)
		}
	}
}

// R5, R7: beside an error stands its place, as the chapter says, and beside words none.
func TestPlaceOnlyBesideErrors(t *testing.T) {
	for s, want := range map[string]api.Pos{"": {}, "a": {}, "a\n b": {}, "#": {}, "a\n &": pos(2, 2)} {
		if _, p, _ := Words(s); p != want {
			t.Errorf("Words(%q): place %v, want %v", s, p, want)
		}
	}
}

// R2, R5: an error behind right words, and right words behind an error, leave no trace.
func TestErrorsLeaveNoTrace(t *testing.T) {
	for range 3 {
		wantTexts(t, "a 1", "1a", "21")
		wantError(t, "a 1 &", pos(1, 5), api.ErrWord)
		wantError(t, strings.Repeat("a ", api.MaxWords+1), pos(1, 2*api.MaxWords+1), api.ErrLong)
		wantWords(t, "")
	}
}

// R1, P3.1, P3.2: no call panics, whatever text it is given, and all of them do as the sentences say.
func FuzzWords(f *testing.F) {
	for _, s := range []string{"", "a<=1#x", "я_1<=12\n  &&!x# }\n}", "01", "1a", "&", "\xff\xd1", "# \xff\n1000000001"} {
		f.Add(s)
	}
	f.Fuzz(wantByTheWords)
}
