package guard

import (
	"math"
	"regexp"
	"slices"
	"strconv"
	"strings"
	"testing"
	"unsafe"

	"tumbrel/api"
	"tumbrel/expr"
	"tumbrel/glyph"
)

// Short to write.
type tree = expr.Expr

func lit(n int64) tree                   { return expr.Lit{N: n} }
func ref(name string) tree               { return expr.Ref{Name: name} }
func not(x tree) tree                    { return expr.Not{X: x} }
func neg(x tree) tree                    { return expr.Neg{X: x} }
func bin(l tree, op string, r tree) tree { return expr.Bin{Op: op, L: l, R: r} }

var a, b, c, d = ref("a"), ref("b"), ref("c"), ref("d")

// levels tells how much the operators bind, from the least on, as the chapter says.
var levels = map[string]int{"||": 1, "&&": 2, "<": 3, "<=": 3, "==": 3, "!=": 3, "+": 4, "-": 4, "*": 5}

var operators = strings.Fields("|| && < <= == != + - *")

var reserved = strings.Fields("chart var state all end do undo at retries on if go set")

// Other types: one that is like a Lit, one that promotes a Lit's method, and one that can't be asked.
type likeLit struct{ N int64 }
type holdsLit struct{ expr.Lit }
type loud struct{}

func (likeLit) Kind() int { return 1 }
func (*loud) Kind() int   { panic("asked") }

// others is something of each other type, pointers to the five types too.
func others() []tree {
	return []tree{likeLit{1}, holdsLit{}, &loud{}, (*loud)(nil), &expr.Lit{N: 1}, (*expr.Lit)(nil), &expr.Ref{Name: "a"}, &expr.Not{X: a}, &expr.Neg{X: a}, &expr.Bin{Op: "+", L: a, R: b}, (*expr.Bin)(nil)}
}

// holding is x in each place that an expression has, and deeper.
func holding(x tree) []tree {
	return []tree{not(x), neg(x), bin(x, "+", a), bin(a, "+", x), bin(x, "&&", x), not(neg(not(x))), bin(a, "*", bin(x, "<", b)), bin(neg(bin(a, "||", x)), "-", b)}
}

// wordsOf is the words of a text that has them.
func wordsOf(t *testing.T, s string) []glyph.Word {
	t.Helper()
	words, at, no := glyph.Words(s)
	if no != api.OK {
		t.Fatalf("%.60q has no words: %v %v", s, at, no)
	}
	return words
}

// wantTake fails unless Take answers that.
func wantTake(t *testing.T, words []glyph.Word, e tree, n int, no api.Errno) {
	t.Helper()
	got, gotN, gotNo := Take(words)
	if gotN != n || gotNo != no || !expr.Same(got, e) || (got == nil) != (e == nil) {
		t.Errorf("Take(%.200q) = %#v %d %v, want %#v %d %v", texts(words), got, gotN, gotNo, e, n, no)
	}
}

// wantParse fails unless Parse answers that.
func wantParse(t *testing.T, s string, e tree, no api.Errno) {
	t.Helper()
	got, gotNo := Parse(s)
	if gotNo != no || !expr.Same(got, e) || (got == nil) != (e == nil) {
		t.Errorf("Parse(%.200q) = %#v %v, want %#v %v", s, got, gotNo, e, no)
	}
}

// wantTaken fails unless the first n words of s are e for Take, and all of s for Parse, if no words are left.
func wantTaken(t *testing.T, s string, e tree, n int) {
	t.Helper()
	words := wordsOf(t, s)
	wantTake(t, words, e, n, api.OK)
	if n < len(words) {
		wantParse(t, s, nil, api.ErrSyntax)
	} else {
		wantParse(t, s, e, api.OK)
	}
}

// wantWhole fails unless all of s is e.
func wantWhole(t *testing.T, s string, e tree) {
	t.Helper()
	wantTaken(t, s, e, len(wordsOf(t, s)))
}

// wantRefused fails unless s is refused at that word.
func wantRefused(t *testing.T, s string, n int, no api.Errno) {
	t.Helper()
	wantTake(t, wordsOf(t, s), nil, n, no)
	wantParse(t, s, nil, no)
}

// texts is what words are, without their kinds and places.
func texts(words []glyph.Word) []string {
	var list []string
	for _, w := range words[:min(len(words), 50)] {
		list = append(list, w.Text)
	}
	return list
}

// P5.1: a number is a Lit, a name a Ref.
func TestTakeLeaves(t *testing.T) {
	for s, n := range map[string]int64{"0": 0, "1": 1, "7": 7, "10": 10, "42": 42, "999999999": 999999999, "1000000000": api.MaxInt, "8": 8, "100": 100} {
		wantWhole(t, s, lit(n))
		wantWhole(t, " # nine\n\t"+s+" ", lit(n))
		wantWhole(t, "-"+s, neg(lit(n)))
	}
	for _, s := range []string{"a", "Z", "я", "а", "a1_", "n", "done", "ifs", "If", "IF", "gone", "sets", "x", "true", "chart1", "on_", strings.Repeat("a", api.MaxName), strings.Repeat("я", api.MaxName)} {
		wantWhole(t, s, ref(s))
		wantWhole(t, "("+s+")", ref(s))
		wantWhole(t, s+"+"+s, bin(ref(s), "+", ref(s)))
	}
}

// P5.1: each operator alone, of each kind of leaf on both sides.
func TestTakeOperators(t *testing.T) {
	for _, op := range operators {
		wantWhole(t, "a "+op+" b", bin(a, op, b))
		wantWhole(t, "b"+op+"a", bin(b, op, a))
		wantWhole(t, "1 "+op+" a", bin(lit(1), op, a))
		wantWhole(t, "a "+op+"\n12 # twelve", bin(a, op, lit(12)))
		wantWhole(t, "0 "+op+" 1000000000", bin(lit(0), op, lit(api.MaxInt)))
		wantWhole(t, "(a "+op+" b)", bin(a, op, b))
	}
}

// P5.1: each operator beside each other one: which binds more, and to which side.
func TestTakePairs(t *testing.T) {
	for _, first := range operators {
		for _, second := range operators {
			s := "a " + first + " b " + second + " c"
			left, right := bin(bin(a, first, b), second, c), bin(a, first, bin(b, second, c))
			switch {
			case levels[first] < levels[second]:
				wantWhole(t, s, right)
			case levels[first] > levels[second] || levels[first] != 3:
				wantWhole(t, s, left)
			default:
				wantTaken(t, s, bin(a, first, b), 3)
			}
			wantWhole(t, "(a "+first+" b) "+second+" c", left)
			wantWhole(t, "a "+first+" (b "+second+" c)", right)
		}
	}
}

// P5.1: rows of operators, among them all levels at once, upward and downward.
func TestTakeRows(t *testing.T) {
	wantWhole(t, "a - b - c - d", bin(bin(bin(a, "-", b), "-", c), "-", d))
	wantWhole(t, "a - b + c - d", bin(bin(bin(a, "-", b), "+", c), "-", d))
	wantWhole(t, "a * b * c * d", bin(bin(bin(a, "*", b), "*", c), "*", d))
	wantWhole(t, "a || b || c || d", bin(bin(bin(a, "||", b), "||", c), "||", d))
	wantWhole(t, "a && b && c && d", bin(bin(bin(a, "&&", b), "&&", c), "&&", d))
	wantWhole(t, "a || b && c || d", bin(bin(a, "||", bin(b, "&&", c)), "||", d))
	wantWhole(t, "a && b || c && d", bin(bin(a, "&&", b), "||", bin(c, "&&", d)))
	wantWhole(t, "a * b + c * d", bin(bin(a, "*", b), "+", bin(c, "*", d)))
	wantWhole(t, "a + b * c - d", bin(bin(a, "+", bin(b, "*", c)), "-", d))
	wantWhole(t, "a || b && c < d + 1 * 2", bin(a, "||", bin(b, "&&", bin(c, "<", bin(d, "+", bin(lit(1), "*", lit(2)))))))
	wantWhole(t, "2 * 1 + d < c && b || a", bin(bin(bin(bin(bin(lit(2), "*", lit(1)), "+", d), "<", c), "&&", b), "||", a))
	wantWhole(t, "a + b * -c < 3 && !d", bin(bin(bin(a, "+", bin(b, "*", neg(c))), "<", lit(3)), "&&", not(d)))
}

// P5.1: no two comparisons side by side: the expression ends ahead of the second one, and in brackets it can't go on.
func TestTakeComparisons(t *testing.T) {
	wantTaken(t, "a < b < c", bin(a, "<", b), 3)
	wantTaken(t, "a < b + c < d", bin(a, "<", bin(b, "+", c)), 5)
	wantTaken(t, "a + b < c * d == 1", bin(bin(a, "+", b), "<", bin(c, "*", d)), 7)
	wantTaken(t, "a < -b < c", bin(a, "<", neg(b)), 4)
	wantTaken(t, "a && b < c < d", bin(a, "&&", bin(b, "<", c)), 5)
	wantTaken(t, "a < b < c && d", bin(a, "<", b), 3)
	wantTaken(t, "a < (b < c) < d", bin(a, "<", bin(b, "<", c)), 7)
	wantRefused(t, "(a < b < c)", 4, api.ErrSyntax)
	wantRefused(t, "(a == b + 1 != c)", 6, api.ErrSyntax)
	wantRefused(t, "a < (b < c < d)", 6, api.ErrSyntax)
	wantRefused(t, "!(a && b <= c < d", 7, api.ErrSyntax)
	wantRefused(t, "a < < b", 2, api.ErrSyntax)
	// Apart by what binds less, or by brackets, there may be any number.
	wantWhole(t, "a < b && c < d", bin(bin(a, "<", b), "&&", bin(c, "<", d)))
	wantWhole(t, "a < b || c == d && a != d", bin(bin(a, "<", b), "||", bin(bin(c, "==", d), "&&", bin(a, "!=", d))))
	wantWhole(t, "(a < b) < c", bin(bin(a, "<", b), "<", c))
	wantWhole(t, "a < (b < c)", bin(a, "<", bin(b, "<", c)))
	wantWhole(t, "(a < b) == (c < d)", bin(bin(a, "<", b), "==", bin(c, "<", d)))
	wantWhole(t, "a < b + (c < d) * 2", bin(a, "<", bin(b, "+", bin(bin(c, "<", d), "*", lit(2)))))
	wantWhole(t, "a < -(b < c)", bin(a, "<", neg(bin(b, "<", c))))
	wantWhole(t, "!(a < b) != !(c < d)", bin(not(bin(a, "<", b)), "!=", not(bin(c, "<", d))))
}

// P5.1: ! and - ahead, several of them, beside each operator, and ahead of brackets.
func TestTakeAhead(t *testing.T) {
	wantWhole(t, "!a", not(a))
	wantWhole(t, "-a", neg(a))
	wantWhole(t, "- 3", neg(lit(3)))
	wantWhole(t, "! 0", not(lit(0)))
	wantWhole(t, "!!a", not(not(a)))
	wantWhole(t, "--a", neg(neg(a)))
	wantWhole(t, "!-a", not(neg(a)))
	wantWhole(t, "-!a", neg(not(a)))
	wantWhole(t, "-!-!!a", neg(not(neg(not(not(a))))))
	wantWhole(t, "!(a)", not(a))
	wantWhole(t, "-(-(a))", neg(neg(a)))
	wantWhole(t, "a - -b", bin(a, "-", neg(b)))
	wantWhole(t, "a--b", bin(a, "-", neg(b)))
	wantWhole(t, "a---b", bin(a, "-", neg(neg(b))))
	wantWhole(t, "a!=!b", bin(a, "!=", not(b)))
	wantWhole(t, "-a-b", bin(neg(a), "-", b))
	wantWhole(t, "a * -b * c", bin(bin(a, "*", neg(b)), "*", c))
	for _, op := range operators {
		wantWhole(t, "!a "+op+" b", bin(not(a), op, b))
		wantWhole(t, "-a "+op+" b", bin(neg(a), op, b))
		wantWhole(t, "a "+op+" !b", bin(a, op, not(b)))
		wantWhole(t, "a "+op+" -b", bin(a, op, neg(b)))
		wantWhole(t, "--a "+op+" !!b", bin(neg(neg(a)), op, not(not(b))))
		wantWhole(t, "!(a "+op+" b)", not(bin(a, op, b)))
		wantWhole(t, "-(a "+op+" b)", neg(bin(a, op, b)))
		wantWhole(t, "!-(a "+op+" -b)", not(neg(bin(a, op, neg(b)))))
		wantWhole(t, "c - (a "+op+" b)", bin(c, "-", bin(a, op, b)))
		wantWhole(t, "-(a "+op+" b) * c", bin(neg(bin(a, op, b)), "*", c))
	}
}

// P5.1: brackets around an expression are it, however many there are.
func TestTakeBrackets(t *testing.T) {
	wantWhole(t, "(a)", a)
	wantWhole(t, "((a))", a)
	wantWhole(t, "(((7)))", lit(7))
	wantWhole(t, "((a) + ((b)))", bin(a, "+", b))
	wantWhole(t, "(a - b) - c", bin(bin(a, "-", b), "-", c))
	wantWhole(t, "a - (b - c)", bin(a, "-", bin(b, "-", c)))
	wantWhole(t, "a - (b - (c - d))", bin(a, "-", bin(b, "-", bin(c, "-", d))))
	wantWhole(t, "(a - (b - c)) - d", bin(bin(a, "-", bin(b, "-", c)), "-", d))
	wantWhole(t, "((a || b) && c) == d", bin(bin(bin(a, "||", b), "&&", c), "==", d))
	wantWhole(t, "(a + b) * (c - d)", bin(bin(a, "+", b), "*", bin(c, "-", d)))
	wantWhole(t, "!((a + b) * (c))", not(bin(bin(a, "+", b), "*", c)))
	// They count for nothing: MaxWords words with one part.
	most := strings.Repeat("(", 1499) + "!a" + strings.Repeat(")", 1499)
	if len(wordsOf(t, most)) != api.MaxWords {
		t.Fatal(len(wordsOf(t, most)))
	}
	wantWhole(t, most, not(a))
	for _, n := range []int{0, 1, 11, 12, 13, 40, 1000} {
		in, out := strings.Repeat("(", n), strings.Repeat(")", n)
		wantWhole(t, in+"a - b"+out+" - c", bin(bin(a, "-", b), "-", c))
		wantWhole(t, "a - "+in+"b"+out, bin(a, "-", b))
		wantTaken(t, in+"a"+out+")", a, 2*n+1)
		wantRefused(t, "("+in+"a"+out, 2*n+2, api.ErrSyntax)
	}
}

// P5.1: a reserved word is no Ref: it ends an expression, or can't stand there.
func TestTakeReserved(t *testing.T) {
	for _, s := range reserved {
		wantRefused(t, s, 0, api.ErrSyntax)
		wantRefused(t, s+" a", 0, api.ErrSyntax)
		wantRefused(t, "!"+s, 1, api.ErrSyntax)
		wantRefused(t, "--"+s, 2, api.ErrSyntax)
		wantRefused(t, "("+s+")", 1, api.ErrSyntax)
		wantRefused(t, "(a "+s, 2, api.ErrSyntax)
		wantRefused(t, "(a + b "+s+" )", 4, api.ErrSyntax)
		for _, op := range operators {
			wantRefused(t, "a "+op+" "+s, 2, api.ErrSyntax)
			wantRefused(t, s+" "+op+" a", 0, api.ErrSyntax)
			wantTaken(t, "a "+op+" b "+s+" c", bin(a, op, b), 3)
		}
		wantTaken(t, "a "+s, a, 1)
		wantTaken(t, "(1) "+s+" + 1", lit(1), 3)
	}
}

// P5.1: words that end too early, at each place of an expression, and which of its beginnings are expressions.
func TestTakeEndsEarly(t *testing.T) {
	whole := map[string][]int{
		"a + b * - c < 3 && ! d":      {1, 3, 6, 8, 11},
		"( a )":                       {3},
		"! - ( a || ( b - 1 ) ) == 2": {11, 13},
		"a <= ( ( b ) )":              {1, 7},
		"- - ! 5":                     {4},
	}
	for s, ends := range whole {
		words := wordsOf(t, s)
		for n := range len(words) + 1 {
			e, got, no := Take(words[:n])
			if slices.Contains(ends, n) {
				if no != api.OK || got != n || e == nil {
					t.Errorf("%q: %#v %d %v", texts(words[:n]), e, got, no)
				}
				continue
			}
			wantTake(t, words[:n], nil, n, api.ErrSyntax)
			wantParse(t, strings.Join(texts(words[:n]), " "), nil, api.ErrSyntax)
		}
		if !slices.Contains(ends, len(words)) {
			t.Error(s)
		}
	}
	for _, op := range operators {
		wantRefused(t, "a "+op, 2, api.ErrSyntax)
		wantRefused(t, "a "+op+" -", 3, api.ErrSyntax)
		wantRefused(t, "a "+op+" (", 3, api.ErrSyntax)
		wantRefused(t, "(a "+op+" b", 4, api.ErrSyntax)
		wantRefused(t, "a + b "+op, 4, api.ErrSyntax)
	}
}

// P5.1: words with which it can't go on, at each place.
func TestTakeCantGoOn(t *testing.T) {
	for _, s := range []string{"{", "}", ")", "=", "+", "*", "<", "<=", "==", "!=", "&&", "||", "if", "set"} {
		wantRefused(t, s, 0, api.ErrSyntax)
		wantRefused(t, s+" a", 0, api.ErrSyntax)
		wantRefused(t, "! "+s, 1, api.ErrSyntax)
		wantRefused(t, "- "+s+" a", 1, api.ErrSyntax)
		wantRefused(t, "( "+s, 1, api.ErrSyntax)
		wantRefused(t, "( "+s+" a )", 1, api.ErrSyntax)
		for _, op := range operators {
			wantRefused(t, "a "+op+" "+s, 2, api.ErrSyntax)
			wantRefused(t, "a "+op+" "+s+" b", 2, api.ErrSyntax)
			wantRefused(t, "a "+op+" b + "+s+" b", 4, api.ErrSyntax)
		}
	}
	// In brackets it must go on up to their end.
	for _, s := range []string{"{", "}", "=", "!", "(", "b", "7", "do", "on"} {
		wantRefused(t, "( a "+s, 2, api.ErrSyntax)
		wantRefused(t, "( a "+s+" )", 2, api.ErrSyntax)
		wantRefused(t, "( ( a ) "+s+" ) )", 4, api.ErrSyntax)
		wantRefused(t, "c * ( a + b "+s+" d )", 6, api.ErrSyntax)
	}
	wantRefused(t, "()", 1, api.ErrSyntax)
	wantRefused(t, "a + ()", 3, api.ErrSyntax)
	wantRefused(t, "a + ( b go c", 4, api.ErrSyntax)
	// The first one counts.
	wantRefused(t, "a + ) + ) (", 2, api.ErrSyntax)
}

// P5.1: what stands behind an expression, with which it can't go on, isn't of it.
func TestTakeBehind(t *testing.T) {
	for _, e := range []struct {
		s string
		e tree
	}{{"a", a}, {"7", lit(7)}, {"(a)", a}, {"a + b", bin(a, "+", b)}, {"! a", not(a)}, {"a * (b - c)", bin(a, "*", bin(b, "-", c))}, {"a && b < 1", bin(a, "&&", bin(b, "<", lit(1)))}} {
		n := len(wordsOf(t, e.s))
		for _, behind := range []string{"b", "7", "(", ")", "{", "}", "=", "!", "b + c", "( b )", "! b", ") + b", "= b", "go B", "if b", "set n = n + 1", "state A { }", "} }"} {
			wantTaken(t, e.s+" "+behind, e.e, n)
		}
	}
	wantTaken(t, "a + b go c", bin(a, "+", b), 3)
	wantTaken(t, "a ! = b", a, 1)
	wantTaken(t, "a = = b", a, 1)
	wantRefused(t, "a < = b", 2, api.ErrSyntax)
}

// P5.1, R4: no words end too early.
func TestTakeNoWords(t *testing.T) {
	wantTake(t, nil, nil, 0, api.ErrSyntax)
	wantTake(t, []glyph.Word{}, nil, 0, api.ErrSyntax)
	for _, s := range []string{"", " ", "\n\t ", "# a", "# a\n", " # a\n# b\n "} {
		wantParse(t, s, nil, api.ErrSyntax)
	}
}

// row is n times a, with that sign between two.
func row(n int, op string) string {
	return strings.Repeat("a"+op, n-1) + "a"
}

// block is an expression of n parts, for n from 31 to 49, that lies 8 deep at most.
func block(n int) string {
	s := "(" + row(5, "+") + ")*(" + row(5, "+") + ")*(" + row(5, "-") + ")" // 29 parts, 7 deep
	s += "*(" + row((n-29)/2, "-") + ")"
	if n%2 == 1 {
		return s
	}
	return "!(" + s + ")"
}

// P5.1: what is read to its end and has too many parts, and what has just as many as may be.
func TestTakeTooMany(t *testing.T) {
	for n := 31; n < 50; n++ {
		s := block(n)
		if n > api.MaxNodes {
			wantRefused(t, s, 0, api.ErrDeep)
			continue
		}
		e, no := Parse(s)
		if no != api.OK || expr.Nodes(e) != n {
			t.Errorf("%s: %d %v, want %d", s, expr.Nodes(e), no, n)
		}
	}
	full := block(api.MaxNodes)
	wantRefused(t, "-"+full, 0, api.ErrDeep)
	wantRefused(t, full+" + a", 0, api.ErrDeep)
	wantRefused(t, "1 < "+full, 0, api.ErrDeep)
	e, no := Parse("((" + full + "))")
	if no != api.OK || expr.Nodes(e) != api.MaxNodes {
		t.Error(no)
	}
}

// P5.1: what is read to its end and lies too deep, and what lies just as deep as may be.
func TestTakeTooDeep(t *testing.T) {
	for n := 1; n < 2*api.MaxNest; n++ {
		for s, deep := range map[string]int{
			strings.Repeat("!", n-1) + "a":                                     n,
			strings.Repeat("-", n-1) + "1":                                     n,
			strings.Repeat("-(", n-1) + "1" + strings.Repeat(")", n-1):         n,
			strings.Repeat("!-", n-1) + "a":                                    2*n - 1,
			row(n, " - "):                                                      n,
			row(n, " && "):                                                     n,
			"a * (" + row(n, " || ") + ")":                                     n + 1,
			"(" + row(n, " * ") + ") < b":                                      n + 1,
			"b == " + row(n, " + "):                                            n + 1,
			strings.Repeat("a - (", n-1) + "b" + strings.Repeat(")", n-1):      n,
			strings.Repeat("a && (", n-1) + "b" + strings.Repeat(")", n-1):     n,
			strings.Repeat("(", n) + "a + b" + strings.Repeat(")", n):          2,
			"!(" + row(min(n, 5), " * ") + " < " + row(min(n, 4), " * ") + ")": min(n, 5) + 2,
		} {
			if deep > api.MaxNest {
				wantRefused(t, s, 0, api.ErrDeep)
				continue
			}
			words := wordsOf(t, s)
			if e, got, no := Take(words); no != api.OK || got != len(words) || !expr.Formed(e) {
				t.Errorf("%s: %d %v", s, got, no)
			}
		}
	}
	wantWhole(t, "!!!!!!!!!!!1", not(not(not(not(not(not(not(not(not(not(not(lit(1)))))))))))))
	wantRefused(t, "!!!!!!!!!!!!1", 0, api.ErrDeep)
}

// P5.1: whether it is formed is asked of what is read to its end, words behind it or not; what breaks off is ErrSyntax, whatever it has by then.
func TestTakeDeepOrBroken(t *testing.T) {
	for _, s := range []string{strings.Repeat("!", 12) + "a", row(13, "+"), "(" + row(30, "*") + ")", block(41), row(2, "<") + "+" + row(20, "-")} {
		n := len(wordsOf(t, s))
		wantRefused(t, s, 0, api.ErrDeep)
		for _, behind := range []string{"b", ")", "} b", "go b", "= 1", "if", "( b"} {
			wantRefused(t, s+" "+behind, 0, api.ErrDeep)
		}
		wantRefused(t, s+" +", n+1, api.ErrSyntax)
		wantRefused(t, s+" && )", n+1, api.ErrSyntax)
		wantRefused(t, s+" * go", n+1, api.ErrSyntax)
		wantRefused(t, "("+s, n+1, api.ErrSyntax)
		wantRefused(t, "("+s+" b )", n+1, api.ErrSyntax)
		wantRefused(t, "a || ("+s+" if", n+3, api.ErrSyntax)
	}
	wantRefused(t, row(13, "+")+" < b < c", 0, api.ErrDeep)
	wantRefused(t, strings.Repeat("!", 12), 12, api.ErrSyntax)
	wantRefused(t, strings.Repeat("!", 50)+"if", 50, api.ErrSyntax)
}

// P5.1, R1: words that layer 3 never answers are none: where one should be it can't go on, and behind an expression they aren't of it.
func TestTakeStrangeWords(t *testing.T) {
	strange := []glyph.Word{
		{}, {Kind: 1}, {Kind: 2}, {Kind: 3}, {Kind: 1, Text: "1"}, {Kind: 1, Text: "+"}, {Kind: 1, Text: "("}, {Kind: 1, Text: "!"}, {Kind: 1, Text: "a b"}, {Kind: 1, Text: "a "}, {Kind: 1, Text: " a"}, {Kind: 1, Text: "a#"}, {Kind: 1, Text: "_"}, {Kind: 1, Text: "é"}, {Kind: 1, Text: "a\xff"},
		{Kind: 1, Text: strings.Repeat("a", api.MaxName+1)}, {Kind: 1, Text: strings.Repeat("a", 20000)}, {Kind: 1, Text: strings.Repeat("a ", 6000)},
		{Kind: 2, Text: "a"}, {Kind: 2, Text: "01"}, {Kind: 2, Text: "00"}, {Kind: 2, Text: "-1"}, {Kind: 2, Text: "+1"}, {Kind: 2, Text: "1_0"}, {Kind: 2, Text: "0x1"}, {Kind: 2, Text: "1 "}, {Kind: 2, Text: "1\n"}, {Kind: 2, Text: "1000000001"}, {Kind: 2, Text: "99999999999999999999"}, {Kind: 2, Text: "("}, {Kind: 2, Text: "*"}, {Kind: 2, Text: "-"},
		{Kind: 3, Text: "a"}, {Kind: 3, Text: "1"}, {Kind: 3, Text: ">"}, {Kind: 3, Text: "+ "}, {Kind: 3, Text: "++"}, {Kind: 3, Text: "(("}, {Kind: 3, Text: "!!"}, {Kind: 3, Text: "&"}, {Kind: 3, Text: "\xff"},
		{Kind: 0, Text: "a"}, {Kind: 4, Text: "a"}, {Kind: -1, Text: "1"}, {Kind: 0, Text: "+"}, {Kind: 4, Text: ")"}, {Kind: math.MaxInt, Text: "("}, {Kind: math.MinInt, Text: "!"},
	}
	one := func(s string) []glyph.Word { return wordsOf(t, s) }
	for _, w := range strange {
		wantTake(t, []glyph.Word{w}, nil, 0, api.ErrSyntax)
		wantTake(t, append([]glyph.Word{w}, one("a + b")...), nil, 0, api.ErrSyntax)
		wantTake(t, append(one("!"), w), nil, 1, api.ErrSyntax)
		wantTake(t, append(one("a +"), w), nil, 2, api.ErrSyntax)
		wantTake(t, append(one("( a"), w), nil, 2, api.ErrSyntax)
		wantTake(t, append(append(one("a"), w), one("b")...), a, 1, api.OK)
		wantTake(t, append(append(one("a * b"), w), one(")")...), bin(a, "*", b), 3, api.OK)
	}
}

// P5.1: places don't matter.
func TestTakePlaces(t *testing.T) {
	words := wordsOf(t, "a + b * ( c - 1 )")
	for i := range words {
		words[i].At = api.Pos{Line: -i, Col: 1 << 40}
	}
	wantTake(t, words, bin(a, "+", bin(b, "*", bin(c, "-", lit(1)))), 9, api.OK)
}

// P5.1: Parse answers layer 3's error ahead of Take's.
func TestParseWords(t *testing.T) {
	for s, no := range map[string]api.Errno{
		"&": api.ErrWord, "a & b": api.ErrWord, "01": api.ErrWord, "1a": api.ErrWord, "a > b": api.ErrWord, "a / b": api.ErrWord, "1000000001": api.ErrWord, "a + 99999999999": api.ErrWord, "_": api.ErrWord, "a; b": api.ErrWord, "\xff": api.ErrWord, "a\r": api.ErrWord, "é": api.ErrWord,
		strings.Repeat("a", api.MaxName+1): api.ErrWord,
		// Take would refuse these, or answer a place ahead.
		") &": api.ErrWord, "a b ?": api.ErrWord, "a + ?": api.ErrWord, "if |": api.ErrWord, strings.Repeat("!", 12) + "1 %": api.ErrWord, "a < b < c [": api.ErrWord, "()$": api.ErrWord,
		strings.Repeat(" ", api.MaxSource) + "a": api.ErrLong, strings.Repeat("&", api.MaxSource+1): api.ErrLong, strings.Repeat("a ", api.MaxSource): api.ErrLong,
		strings.Repeat("(", api.MaxWords) + "a": api.ErrLong, strings.Repeat("!", api.MaxWords) + "1": api.ErrLong, strings.Repeat(")", api.MaxWords+1): api.ErrLong,
	} {
		wantParse(t, s, nil, no)
	}
	wantParse(t, strings.Repeat(" ", api.MaxSource-1)+"a", a, api.OK)
	wantParse(t, strings.Repeat("!", api.MaxWords-1)+"1", nil, api.ErrDeep)
	wantParse(t, strings.Repeat("(", api.MaxWords), nil, api.ErrSyntax)
}

// P5.1: Parse of words that are left, and which error comes first.
func TestParseLeft(t *testing.T) {
	for s, no := range map[string]api.Errno{
		"a b": api.ErrSyntax, "a < b < c": api.ErrSyntax, "a = b": api.ErrSyntax, "a )": api.ErrSyntax, "(a) (b)": api.ErrSyntax, "1 2": api.ErrSyntax, "a go B": api.ErrSyntax, "a {": api.ErrSyntax, "a !": api.ErrSyntax, "(a": api.ErrSyntax, "if": api.ErrSyntax, "1 +": api.ErrSyntax,
		strings.Repeat("!", 12) + "1 b": api.ErrDeep, row(13, "+") + " )": api.ErrDeep, row(13, "+") + " + )": api.ErrSyntax,
	} {
		wantParse(t, s, nil, no)
	}
}

// wantText fails unless e's text is s, and Parse makes e of it.
func wantText(t *testing.T, e tree, s string) {
	t.Helper()
	got, no := Print(e)
	if got != s || no != api.OK {
		t.Errorf("Print(%#v) = %q %v, want %q", e, got, no, s)
	}
	wantParse(t, s, e, api.OK)
}

// P5.2, P5.3: each kind.
func TestPrintKinds(t *testing.T) {
	for _, n := range []int64{0, 1, 9, 10, 99, 100, 12345, api.MaxInt - 1, api.MaxInt} {
		wantText(t, lit(n), strconv.Itoa(int(n)))
		wantText(t, neg(lit(n)), "-"+strconv.Itoa(int(n)))
	}
	for _, s := range []string{"a", "Z", "я", "a1_", "done", "If", strings.Repeat("a", api.MaxName), strings.Repeat("я", api.MaxName)} {
		wantText(t, ref(s), s)
		wantText(t, not(ref(s)), "!"+s)
		wantText(t, bin(ref(s), "<", ref(s)), s+" < "+s)
	}
	wantText(t, not(a), "!a")
	wantText(t, neg(a), "-a")
	wantText(t, not(not(a)), "!!a")
	wantText(t, neg(neg(a)), "--a")
	wantText(t, not(neg(a)), "!-a")
	wantText(t, neg(not(neg(lit(0)))), "-!-0")
	for _, op := range operators {
		wantText(t, bin(a, op, lit(1)), "a "+op+" 1")
		wantText(t, bin(not(a), op, neg(b)), "!a "+op+" -b")
		wantText(t, bin(neg(neg(a)), op, not(not(b))), "--a "+op+" !!b")
		wantText(t, not(bin(a, op, b)), "!(a "+op+" b)")
		wantText(t, neg(bin(a, op, b)), "-(a "+op+" b)")
		wantText(t, not(neg(bin(a, op, b))), "!-(a "+op+" b)")
	}
}

// P5.2, P5.3: each operator in each other one, on both sides.
func TestPrintPairs(t *testing.T) {
	for _, outer := range operators {
		for _, inner := range operators {
			in, out := levels[inner], levels[outer]
			left, right := "a "+inner+" b", "b "+inner+" c"
			if in < out || in == out && in == 3 {
				left = "(" + left + ")"
			}
			if in <= out {
				right = "(" + right + ")"
			}
			wantText(t, bin(bin(a, inner, b), outer, c), left+" "+outer+" c")
			wantText(t, bin(a, outer, bin(b, inner, c)), "a "+outer+" "+right)
			wantText(t, bin(neg(bin(a, inner, b)), outer, not(bin(b, inner, c))), "-(a "+inner+" b) "+outer+" !(b "+inner+" c)")
		}
	}
}

// P5.2, P5.3: brackets just where they are needed, in what is larger.
func TestPrintBrackets(t *testing.T) {
	wantText(t, bin(bin(bin(a, "+", bin(b, "*", neg(c))), "<", lit(3)), "&&", not(d)), "a + b * -c < 3 && !d")
	wantText(t, bin(a, "-", bin(b, "-", c)), "a - (b - c)")
	wantText(t, bin(bin(a, "-", b), "-", c), "a - b - c")
	wantText(t, not(bin(a, "<", b)), "!(a < b)")
	wantText(t, bin(bin(a, "||", b), "&&", bin(c, "||", d)), "(a || b) && (c || d)")
	wantText(t, bin(bin(a, "&&", b), "||", bin(c, "&&", d)), "a && b || c && d")
	wantText(t, bin(bin(a, "<", b), "==", bin(c, "<", d)), "(a < b) == (c < d)")
	wantText(t, bin(bin(a, "-", bin(b, "-", c)), "-", d), "a - (b - c) - d")
	wantText(t, bin(a, "-", bin(bin(b, "-", c), "-", d)), "a - (b - c - d)")
	wantText(t, bin(a, "-", bin(b, "-", bin(c, "-", d))), "a - (b - (c - d))")
	wantText(t, bin(bin(a, "+", b), "*", bin(c, "+", d)), "(a + b) * (c + d)")
	wantText(t, bin(neg(bin(a, "+", b)), "*", c), "-(a + b) * c")
	wantText(t, neg(bin(neg(bin(a, "*", b)), "*", c)), "-(-(a * b) * c)")
	wantText(t, bin(a, "||", bin(b, "&&", bin(c, "<", bin(d, "+", bin(lit(1), "*", lit(2)))))), "a || b && c < d + 1 * 2")
	wantText(t, bin(bin(bin(bin(bin(lit(2), "||", lit(1)), "&&", d), "<", c), "+", b), "*", a), "((((2 || 1) && d) < c) + b) * a")
}

// wantNoText fails unless Print refuses e.
func wantNoText(t *testing.T, e tree) {
	t.Helper()
	if s, no := Print(e); s != "" || no != api.ErrArg {
		t.Errorf("Print(%#v) = %q %v", e, s, no)
	}
}

// deepened is e, n times within what wrap puts around it.
func deepened(e tree, n int, wrap func(tree) tree) tree {
	for range n {
		e = wrap(e)
	}
	return e
}

// P5.2, R1: what isn't formed has no text: nil, other types, wrong parts, too many and too deep.
func TestPrintNotFormed(t *testing.T) {
	wrong := append(others(), nil, lit(-1), lit(api.MaxInt+1), lit(math.MinInt64), ref(""), ref("1"), ref("a b"), ref("a\xff"), ref(strings.Repeat("a", api.MaxName+1)),
		expr.Not{}, expr.Neg{}, expr.Bin{}, expr.Bin{Op: "+", L: a}, expr.Bin{Op: "+", R: a}, bin(a, ">", b), bin(a, "", b), bin(a, "=", b), bin(a, "!", b), bin(a, "(", b), bin(a, "+ ", b))
	for _, e := range wrong {
		wantNoText(t, e)
		for _, h := range holding(e) {
			wantNoText(t, h)
		}
	}
	double := func(x tree) tree { return bin(x, "+", x) }
	for _, wrap := range []func(tree) tree{not, neg, double, func(x tree) tree { return bin(x, "<", a) }, func(x tree) tree { return bin(a, "||", x) }} {
		wantNoText(t, deepened(a, api.MaxNest, wrap))
		wantNoText(t, deepened(a, 1<<16, wrap))
	}
	wantNoText(t, deepened(a, 5, double))
	wantNoText(t, deepened(a, 60, double))
	wantText(t, deepened(a, 4, double), "a + a + (a + a) + (a + a + (a + a)) + (a + a + (a + a) + (a + a + (a + a)))")
	wantText(t, deepened(a, 11, not), strings.Repeat("!", 11)+"a")
	wantText(t, deepened(a, 11, func(x tree) tree { return bin(x, "-", b) }), "a"+strings.Repeat(" - b", 11))
	wantText(t, deepened(a, 11, func(x tree) tree { return bin(b, "-", x) }), strings.Repeat("b - (", 10)+"b - a"+strings.Repeat(")", 10))
}

// P5.2, P5.3: the longest text that there may be is one, and is read.
func TestPrintLongest(t *testing.T) {
	name := ref(strings.Repeat("я", api.MaxName))
	e := not(grownSum(name, 20))
	s, no := Print(e)
	if no != api.OK || expr.Nodes(e) != api.MaxNodes {
		t.Fatal(no, expr.Nodes(e))
	}
	wantParse(t, s, e, api.OK)
}

// grownSum is a sum of n times x that lies no deeper than it must.
func grownSum(x tree, n int) tree {
	if n == 1 {
		return x
	}
	return bin(grownSum(x, n/2), "+", grownSum(x, n-n/2))
}

// P5.2: a Ref of a reserved name has no text, wherever it stands.
func TestPrintReserved(t *testing.T) {
	for _, s := range reserved {
		if !expr.Formed(ref(s)) {
			t.Error(s)
		}
		wantNoText(t, ref(s))
		for _, h := range holding(ref(s)) {
			wantNoText(t, h)
		}
		for _, op := range operators {
			wantNoText(t, bin(a, op, ref(s)))
			wantNoText(t, bin(ref(s), op, a))
			wantNoText(t, bin(bin(a, op, ref("zz")), op, bin(ref(s), op, ref("aa"))))
		}
	}
}

// P5.2: Reserved of each of the words, and of others.
func TestReserved(t *testing.T) {
	if len(reserved) != 13 {
		t.Fatal(len(reserved))
	}
	for _, s := range reserved {
		if !Reserved(s) {
			t.Error(s)
		}
		for _, other := range []string{s + " ", " " + s, s + "s", "x" + s, s[1:], s[:len(s)-1], strings.ToUpper(s), strings.ToUpper(s[:1]) + s[1:], s + s, s + "\x00", s + "1", s + "_", s + "\n"} {
			if Reserved(other) != slices.Contains(reserved, other) {
				t.Errorf("%q", other)
			}
		}
	}
	for _, s := range []string{"", "done", "a", "else", "then", "not", "and", "or", "true", "false", "from", "start", "to", "retry", "not", "0", "1", "+", "!", "(", "\xff", "я", strings.Repeat("do", 1<<20)} {
		if Reserved(s) {
			t.Errorf("%.20q", s)
		}
	}
	// One that is made at run time is the same text.
	if !Reserved(strings.Join([]string{"un", "do"}, "")) {
		t.Error("undo")
	}
}

// The chapter's sentences, told once more: words are an expression if there is a way to part them that makes them one.
var (
	numberByTheWords = regexp.MustCompile(`^(0|[1-9][0-9]{0,8}|1000000000)$`)
	nameByTheWords   = regexp.MustCompile(`^[a-zA-Z\x{430}-\x{44F}][a-zA-Z\x{430}-\x{44F}0-9_]{0,23}$`)
)

// grammar keeps what was asked already.
type grammar map[string]tree

// read is the expression that words are, all of them, where only what binds at that level or more may stand; nil if they are none.
func (g grammar) read(words []string, level int) tree {
	key := strconv.Itoa(level) + " " + strings.Join(words, " ")
	e, known := g[key]
	if !known {
		e = g.part(words, level)
		g[key] = e
	}
	return e
}

// part tries each place at which words could be parted.
func (g grammar) part(words []string, level int) tree {
	if level == 6 {
		return g.one(words)
	}
	for i, w := range words {
		if levels[w] != level {
			continue
		}
		left := level
		if level == 3 {
			left = 4
		}
		l, r := g.read(words[:i], left), g.read(words[i+1:], level+1)
		if l != nil && r != nil {
			return bin(l, w, r)
		}
	}
	return g.read(words, level+1)
}

// one is a leaf, what stands in brackets, or what has ! or - ahead.
func (g grammar) one(words []string) tree {
	n := len(words)
	switch {
	case n == 1 && numberByTheWords.MatchString(words[0]):
		v, _ := strconv.ParseInt(words[0], 10, 64)
		return lit(v)
	case n == 1 && nameByTheWords.MatchString(words[0]) && !slices.Contains(reserved, words[0]):
		return ref(words[0])
	case n > 1 && words[0] == "!":
		if x := g.read(words[1:], 6); x != nil {
			return not(x)
		}
	case n > 1 && words[0] == "-":
		if x := g.read(words[1:], 6); x != nil {
			return neg(x)
		}
	case n > 2 && words[0] == "(" && words[n-1] == ")":
		return g.read(words[1:n-1], 1)
	}
	return nil
}

// goesOn tells if some words behind these make an expression of them: an operand or none, and ends of brackets.
func (g grammar) goesOn(words []string) bool {
	for _, more := range [][]string{nil, {"x"}} {
		all := append(slices.Clone(words), more...)
		for range len(words) + 1 {
			if g.read(all, 1) != nil {
				return true
			}
			all = append(all, ")")
		}
	}
	return false
}

// take is what Take should answer: of the longest beginning that can go on, or is all, or the fault behind it.
func (g grammar) take(words []string) (tree, int, api.Errno) {
	n := 0
	for n < len(words) && g.goesOn(words[:n+1]) {
		n++
	}
	e := g.read(words[:n], 1)
	if e == nil {
		return nil, n, api.ErrSyntax
	}
	return e, n, api.OK
}

// P5.1: all rows of these words, up to so many of them.
func TestTakeByTheWords(t *testing.T) {
	for most, alphabet := range map[int]string{
		4: "a 1 if ! - + * < == && || ( ) =",
		5: "a go ! - < + && ( )",
		6: "a - < * ( )",
	} {
		g, signs := grammar{}, strings.Fields(alphabet)
		var rows func(words []string)
		rows = func(words []string) {
			e, n, no := g.take(words)
			wantTake(t, glyphs(words), e, n, no)
			if len(words) < most {
				for _, s := range signs {
					rows(append(words[:len(words):len(words)], s))
				}
			}
		}
		rows(nil)
	}
}

// glyphs is these texts as words, each of the kind that its first byte tells.
func glyphs(list []string) []glyph.Word {
	words := make([]glyph.Word, len(list))
	for i, s := range list {
		words[i] = glyph.Word{Kind: 3, Text: s}
		if strings.ContainsAny(s[:1], "abcdefghijklmnopqrstuvwxyz") {
			words[i].Kind = 1
		} else if strings.ContainsAny(s[:1], "0123456789") {
			words[i].Kind = 2
		}
	}
	return words
}

// grown is the expression that bytes tell, the first byte first, and what is left of them.
func grown(bytes []byte, room int) (tree, []byte) {
	leaves := []tree{a, b, c, lit(0), lit(7), lit(api.MaxInt), ref("я_1")}
	if len(bytes) == 0 || room == 0 {
		return d, bytes
	}
	kind, bytes := int(bytes[0]), bytes[1:]
	switch {
	case kind < 60:
		return leaves[kind%len(leaves)], bytes
	case kind < 75:
		x, bytes := grown(bytes, room-1)
		return not(x), bytes
	case kind < 90:
		x, bytes := grown(bytes, room-1)
		return neg(x), bytes
	}
	l, bytes := grown(bytes, room-1)
	r, bytes := grown(bytes, room-1)
	return bin(l, operators[kind%len(operators)], r), bytes
}

// bracketed is e's words with brackets around each operand, and around as many of them once more as bytes tell.
func bracketed(e tree, bytes []byte) string {
	s := ""
	switch x := e.(type) {
	case expr.Lit:
		s = strconv.FormatInt(x.N, 10)
	case expr.Ref:
		s = x.Name
	case expr.Not:
		s = "!" + bracketed(x.X, bytes)
	case expr.Neg:
		s = "-" + bracketed(x.X, bytes)
	case expr.Bin:
		s = bracketed(x.L, bytes) + x.Op + bracketed(x.R, bytes)
	}
	if len(bytes) > 0 && bytes[len(s)%len(bytes)]%3 == 0 {
		s = "(" + s + ")"
	}
	return "(" + s + ")"
}

// withoutBrackets is all texts that s is without one pair of its brackets.
func withoutBrackets(s string) []string {
	var list []string
	var open []int
	for i := range len(s) {
		switch s[i] {
		case '(':
			open = append(open, i)
		case ')':
			from := open[len(open)-1]
			open = open[:len(open)-1]
			list = append(list, s[:from]+s[from+1:i]+s[i+1:])
		}
	}
	return list
}

// blanks: one on both sides of an operator between two operands, and no others.
var blanks = regexp.MustCompile(`^[!\-(]*[^ ()!\-]+\)*( (\|\||&&|<|<=|==|!=|\+|-|\*) [!\-(]*[^ ()!\-]+\)*)*$`)

// wantUndone holds Print and Parse against each other, for one expression.
func wantUndone(t *testing.T, e tree, bytes []byte) {
	t.Helper()
	s, no := Print(e)
	if !expr.Formed(e) {
		if s != "" || no != api.ErrArg {
			t.Errorf("Print(%#v) = %q %v", e, s, no)
		}
		all := bracketed(e, bytes)
		want := api.ErrDeep
		if _, _, no := glyph.Words(all); no != api.OK {
			want = no
		}
		wantParse(t, all, nil, want)
		return
	}
	if no != api.OK || !blanks.MatchString(s) {
		t.Errorf("Print(%#v) = %q %v", e, s, no)
	}
	wantParse(t, s, e, api.OK)
	wantParse(t, bracketed(e, bytes), e, api.OK)
	for _, less := range withoutBrackets(s) {
		if x, no := Parse(less); no == api.OK && expr.Same(x, e) {
			t.Errorf("%q would do for %q", less, s)
		}
	}
}

// small is every expression of these leaves, one operator or none around them.
func small() []tree {
	list := []tree{a, lit(7), not(a), neg(b), not(neg(a)), neg(neg(lit(1)))}
	for _, op := range operators {
		list = append(list, bin(a, op, b), bin(not(a), op, lit(1)), bin(a, op, neg(b)), not(bin(a, op, b)), neg(bin(a, op, b)))
	}
	return list
}

// P5.2, P5.3: every small expression, and every operator on two of them.
func TestUndone(t *testing.T) {
	for _, l := range small() {
		wantUndone(t, l, nil)
		wantUndone(t, not(l), nil)
		wantUndone(t, neg(l), nil)
		for _, r := range small() {
			for _, op := range operators {
				wantUndone(t, bin(l, op, r), nil)
			}
		}
	}
}

// P5.2, P5.3: larger expressions that aren't alike, the same ones each time.
func TestUndoneLarge(t *testing.T) {
	x := uint32(5)
	formed := 0
	for round := range 20000 {
		bytes := make([]byte, round%50+1)
		for i := range bytes {
			x = x*1664525 + 1013904223
			bytes[i] = byte(x >> 24)
		}
		bytes[0] |= 0x80
		e, _ := grown(bytes, 15)
		wantUndone(t, e, bytes)
		if expr.Formed(e) {
			formed++
		}
	}
	// Else the rounds would tell little of texts, or of what has none.
	if formed < 2000 || formed > 19000 {
		t.Error(formed)
	}
}

// wantParseByTheWords holds Parse and Take against each other and the chapter, for one text.
func wantParseByTheWords(t *testing.T, s string) {
	t.Helper()
	words, _, no := glyph.Words(s)
	if no != api.OK {
		wantParse(t, s, nil, no)
		return
	}
	e, n, no := Take(words)
	if n < 0 || n > len(words) || (e == nil) != (no != api.OK) || no == api.OK && (n == 0 || !expr.Formed(e)) || no == api.ErrDeep && n != 0 {
		t.Errorf("Take(%q) = %#v %d %v", s, e, n, no)
	}
	switch {
	case no != api.OK:
		wantParse(t, s, nil, no)
	case n < len(words):
		wantParse(t, s, nil, api.ErrSyntax)
	default:
		wantParse(t, s, e, api.OK)
		wantUndone(t, e, []byte(s))
	}
	if len(words) > 8 {
		return
	}
	want, wantN, wantNo := grammar{}.take(texts(words))
	if wantNo == api.OK && !expr.Formed(want) {
		want, wantN, wantNo = nil, 0, api.ErrDeep
	}
	wantTake(t, words, want, wantN, wantNo)
}

// R1, P5.1 to P5.3: no call panics, whatever the text.
func FuzzParse(f *testing.F) {
	for _, s := range []string{"", "a", "a + b * -c < 3 && !d", "a - (b - c)", "a < b < c", "(a", "()", "if", "a go b", "!!!!!!!!!!!!1", "&", "01", "# a", "((a))", "a=b", "я*-7||!(x==2)", "\xff", ")(", "a\n+\t1#x"} {
		f.Add(s)
	}
	f.Fuzz(wantParseByTheWords)
}

// R1, P5.2, P5.3: nor whatever the expression.
func FuzzPrint(f *testing.F) {
	for _, b := range [][]byte{{}, {0}, {200, 100, 1, 2, 3}, {61, 80, 99, 1, 2}, slices.Repeat([]byte{60}, 20), slices.Repeat([]byte{150}, 60), {90, 91, 92, 93, 94, 95, 96, 97, 98}} {
		f.Add(b)
	}
	f.Fuzz(func(t *testing.T, b []byte) {
		e, _ := grown(b, 16)
		wantUndone(t, e, b)
	})
}

// R1: what is huge, or deep, comes to its end.
func TestHuge(t *testing.T) {
	const n = 1 << 18
	many := func(s string) []glyph.Word { return slices.Repeat(glyphs([]string{s}), n) }
	join := slices.Concat[[]glyph.Word]
	one := func(list ...string) []glyph.Word { return glyphs(list) }
	wantTake(t, many("("), nil, n, api.ErrSyntax)
	wantTake(t, many("!"), nil, n, api.ErrSyntax)
	wantTake(t, many("-"), nil, n, api.ErrSyntax)
	wantTake(t, many(")"), nil, 0, api.ErrSyntax)
	wantTake(t, many("a"), a, 1, api.OK)
	wantTake(t, many("+"), nil, 0, api.ErrSyntax)
	wantTake(t, join(many("("), one("a"), many(")")), a, 2*n+1, api.OK)
	wantTake(t, join(many("("), one("a"), many(")"), one(")")), a, 2*n+1, api.OK)
	wantTake(t, join(many("("), one("a"), many(")")[1:]), nil, 2*n, api.ErrSyntax)
	wantTake(t, join(many("!"), one("a")), nil, 0, api.ErrDeep)
	wantTake(t, join(many("-"), one("if")), nil, n, api.ErrSyntax)
	wantTake(t, slices.Repeat(one("a", "+"), n), nil, 2*n, api.ErrSyntax)
	wantTake(t, append(slices.Repeat(one("a", "+"), n), one("a")...), nil, 0, api.ErrDeep)
	wantTake(t, join(slices.Repeat(one("a", "*", "("), n), one("a"), many(")")), nil, 0, api.ErrDeep)
	wantTake(t, join(slices.Repeat(one("-", "("), n), one("a", "&&", "b"), many(")"), one(")")), nil, 0, api.ErrDeep)
}

// R2, R5: what is asked once more is answered alike, errors between or not.
func TestNothingIsKept(t *testing.T) {
	for range 3 {
		wantWhole(t, "a - (b - c)", bin(a, "-", bin(b, "-", c)))
		wantRefused(t, "(a", 2, api.ErrSyntax)
		wantRefused(t, "!!!!!!!!!!!!1", 0, api.ErrDeep)
		wantParse(t, "&", nil, api.ErrWord)
		wantText(t, bin(a, "-", bin(b, "-", c)), "a - (b - c)")
		wantNoText(t, ref("go"))
		wantNoText(t, nil)
		wantTaken(t, "a b", a, 1)
	}
}

// R3: words are left as they are, their spare room too.
func TestWordsAreLeft(t *testing.T) {
	room := wordsOf(t, "a + b * ( c - 1 ) < d && ! a + b + c")
	want := slices.Clone(room)
	for n := range len(room) + 1 {
		Take(room[:n])
		if !slices.Equal(room, want) {
			t.Fatal(n, room)
		}
	}
	// What stands in the spare room isn't read.
	wantTake(t, room[:1], a, 1, api.OK)
	wantTake(t, room[:2], nil, 2, api.ErrSyntax)
}

// R3: an answer has nothing of what was handed in, names and operators neither.
func TestAnswersAreNew(t *testing.T) {
	text := strings.Clone("name + other <= !name")
	inside := func(s string) bool {
		from, at := uintptr(unsafe.Pointer(unsafe.StringData(text))), uintptr(unsafe.Pointer(unsafe.StringData(s)))
		return from <= at && at < from+uintptr(len(text))
	}
	words := glyphs(strings.Fields(text[:len(text)-5]))
	words = append(words, glyph.Word{Kind: 3, Text: text[16:17]}, glyph.Word{Kind: 1, Text: text[17:]})
	if !inside(words[0].Text) || !inside(words[3].Text) {
		t.Fatal("the words aren't pieces of the text")
	}
	e, n, no := Take(words)
	if n != 6 || no != api.OK {
		t.Fatal(n, no)
	}
	var check func(e tree)
	check = func(e tree) {
		switch x := e.(type) {
		case expr.Ref:
			if inside(x.Name) {
				t.Error("a name is a piece of what was handed in:", x.Name)
			}
		case expr.Not:
			check(x.X)
		case expr.Bin:
			if inside(x.Op) {
				t.Error("an operator is a piece of what was handed in:", x.Op)
			}
			check(x.L)
			check(x.R)
		}
	}
	check(e)
	parsed, no := Parse(text)
	if no != api.OK || !expr.Same(e, parsed) {
		t.Fatal(no)
	}
	check(parsed)
	if s, no := Print(ref(text[:4])); s != "name" || no != api.OK || inside(s) {
		t.Error("the text is a piece of what was handed in")
	}
}
