package expr

import (
	"math"
	"math/big"
	"regexp"
	"slices"
	"strings"
	"testing"
	"unsafe"

	"tumbrel/api"
)

// Short to write.
func lit(n int64) Expr                   { return Lit{N: n} }
func ref(name string) Expr               { return Ref{Name: name} }
func not(x Expr) Expr                    { return Not{X: x} }
func neg(x Expr) Expr                    { return Neg{X: x} }
func bin(l Expr, op string, r Expr) Expr { return Bin{Op: op, L: l, R: r} }

var operators = []string{"+", "-", "*", "<", "<=", "==", "!=", "&&", "||"}

// Other types: one that is like a Lit, one that promotes a Lit's method, one that can't be compared, and one that can't be asked.
type likeLit struct{ N int64 }
type holdsLit struct{ Lit }
type listed []int
type loud struct{}

func (likeLit) Kind() int  { return 1 }
func (listed) Kind() int   { return 5 }
func (*loud) Kind() int    { panic("asked") }
func (holdsLit) Skip() int { return 0 }

// others is something of each other type, pointers to the five types too.
func others() []Expr {
	return []Expr{likeLit{1}, holdsLit{Lit{1}}, listed{1}, listed(nil), &loud{}, (*loud)(nil), &Lit{1}, (*Lit)(nil), &Ref{"a"}, &Not{lit(1)}, &Neg{lit(1)}, &Bin{"+", lit(1), lit(1)}, (*Bin)(nil)}
}

// holding is x in each place that an expression has, and deeper.
func holding(x Expr) []Expr {
	return []Expr{
		not(x), neg(x), bin(x, "+", lit(1)), bin(lit(1), "+", x), bin(x, "&&", x), bin(x, "||", lit(0)), bin(lit(0), "&&", x), bin(lit(1), "||", x),
		not(neg(not(x))), bin(lit(1), "+", bin(lit(1), "+", x)), bin(bin(x, "*", lit(1)), "+", lit(1)), not(bin(lit(1), "<", neg(x))),
	}
}

// sized has n expressions in all, and lies no deeper than it must.
func sized(n int) Expr {
	switch {
	case n == 1:
		return ref("a")
	case n%2 == 0:
		return not(sized(n - 1))
	}
	l := (n - 1) / 2
	return bin(sized(l), "+", sized(n-1-l))
}

// summed is a sum of n Refs, which has 2n - 1 expressions.
func summed(n int) Expr {
	if n == 1 {
		return ref("a")
	}
	return bin(summed(n/2), "+", summed(n-n/2))
}

// deepened is e, n times within what wrap puts around it.
func deepened(e Expr, n int, wrap func(Expr) Expr) Expr {
	for range n {
		e = wrap(e)
	}
	return e
}

// wraps are the ways in which an expression lies right in another.
var wraps = []func(Expr) Expr{
	not, neg,
	func(x Expr) Expr { return bin(x, "+", lit(0)) },
	func(x Expr) Expr { return bin(lit(0), "||", x) },
}

// doubled has 2^n Refs that share their memory.
func doubled(n int) Expr {
	return deepened(ref("a"), n, func(x Expr) Expr { return bin(x, "+", x) })
}

// P4.1: Kind, of values and through Expr.
func TestKind(t *testing.T) {
	for i, e := range []Expr{lit(7), ref("a"), not(lit(7)), neg(lit(7)), bin(lit(7), "+", lit(7))} {
		if e.Kind() != i+1 {
			t.Errorf("%T: %d", e, e.Kind())
		}
	}
	for i, e := range []Expr{Lit{}, Ref{}, Not{}, Neg{}, Bin{}, Lit{-1}, Ref{"1"}, Not{&loud{}}, Neg{Not{}}, Bin{">", nil, nil}} {
		if e.Kind() != i%5+1 {
			t.Errorf("%T: %d", e, e.Kind())
		}
	}
}

// wantFormed fails unless Formed tells that of e.
func wantFormed(t *testing.T, e Expr, want bool) {
	t.Helper()
	if Formed(e) != want {
		t.Errorf("Formed(%#v), %d nodes, isn't %v", e, Nodes(e), want)
	}
}

// P4.1: Formed of each kind.
func TestFormed(t *testing.T) {
	for _, e := range []Expr{lit(3), ref("n"), not(ref("n")), neg(lit(3)), bin(ref("n"), "<", lit(3))} {
		wantFormed(t, e, true)
		for _, h := range holding(e) {
			wantFormed(t, h, true)
		}
	}
}

// P4.1: nil and other types aren't formed, nor what holds them.
func TestFormedNone(t *testing.T) {
	for _, e := range append(others(), nil) {
		wantFormed(t, e, false)
		for _, h := range holding(e) {
			wantFormed(t, h, false)
		}
	}
	for _, e := range []Expr{Not{}, Neg{}, Bin{}, Bin{Op: "+"}, Bin{Op: "+", L: lit(1)}, Bin{Op: "+", R: lit(1)}, Ref{}} {
		wantFormed(t, e, false)
	}
	wantFormed(t, Lit{}, true)
}

// P4.1: Lits at the ends of their range and beside them, alone and in each place.
func TestFormedLits(t *testing.T) {
	for n, want := range map[int64]bool{
		0: true, 1: true, api.MaxInt - 1: true, api.MaxInt: true,
		-1: false, api.MaxInt + 1: false, -api.MaxInt: false, -api.MaxInt - 1: false, 1 << 32: false, 1<<32 + 1: false, math.MaxInt64: false, math.MinInt64: false,
	} {
		wantFormed(t, lit(n), want)
		for _, h := range holding(lit(n)) {
			wantFormed(t, h, want)
		}
	}
}

// P4.1: Refs are names; reserved words are names too.
func TestFormedRefs(t *testing.T) {
	for name, want := range map[string]bool{
		"a": true, "Z": true, "я": true, "a1_": true, "if": true, "chart": true, strings.Repeat("a", api.MaxName): true, strings.Repeat("я", api.MaxName): true,
		"": false, "1": false, "1a": false, "_a": false, "a b": false, " a": false, "a ": false, "a+b": false, "é": false, "a\xff": false, "\xff": false, "a\n": false,
		strings.Repeat("a", api.MaxName+1): false, strings.Repeat("я", api.MaxName+1): false, strings.Repeat("a", 1<<20): false,
	} {
		wantFormed(t, ref(name), want)
		for _, h := range holding(ref(name)) {
			wantFormed(t, h, want)
		}
	}
}

// P4.1: the operators are the nine.
func TestFormedOperators(t *testing.T) {
	for _, op := range operators {
		wantFormed(t, bin(lit(1), op, ref("a")), true)
	}
	for _, op := range []string{"", ">", ">=", "=", "!", "/", "%", "&", "|", "^", "<<", "<>", "===", "=<", "=>", "&&&", "|||", "&|", "+ ", " +", "++", "--", "**", "and", "or", "+\x00", "(", "\xff", "\u2212", strings.Repeat("+", 1<<20)} {
		wantFormed(t, bin(lit(1), op, ref("a")), false)
		for _, h := range holding(bin(lit(1), op, ref("a"))) {
			wantFormed(t, h, false)
		}
	}
}

// P4.1: MaxNodes nodes are formed, one more isn't, in whatever place it is.
func TestFormedSize(t *testing.T) {
	for n := 1; n <= api.MaxNodes+30; n++ {
		wantFormed(t, sized(n), n <= api.MaxNodes)
	}
	for _, wrap := range wraps {
		// Each way of wrapping puts one node or two ahead.
		more := Nodes(wrap(lit(0))) - 1
		wantFormed(t, wrap(sized(api.MaxNodes-more)), true)
		wantFormed(t, wrap(sized(api.MaxNodes-more+1)), false)
	}
	wantFormed(t, bin(sized(19), "<", sized(20)), true)
	wantFormed(t, bin(sized(20), "<", sized(20)), false)
	wantFormed(t, bin(sized(19), "<", sized(21)), false)
	wantFormed(t, doubled(4), true)
	wantFormed(t, doubled(5), false)
}

// P4.1: MaxNest deep is formed, one deeper isn't, however it is wrapped.
func TestFormedDepth(t *testing.T) {
	for _, wrap := range wraps {
		for _, leaf := range []Expr{lit(1), ref("a")} {
			for n := range api.MaxNest + 4 {
				wantFormed(t, deepened(leaf, n, wrap), n+1 <= api.MaxNest)
			}
		}
	}
	// One of two sides alone is deep.
	deep, deeper := deepened(lit(1), api.MaxNest-2, not), deepened(lit(1), api.MaxNest-1, not)
	wantFormed(t, bin(deep, "+", lit(1)), true)
	wantFormed(t, bin(lit(1), "+", deep), true)
	wantFormed(t, bin(deep, "+", deep), true)
	wantFormed(t, bin(deeper, "+", lit(1)), false)
	wantFormed(t, bin(lit(1), "+", deeper), false)
	wantFormed(t, bin(deep, "+", deeper), false)
	// MaxNodes nodes that lie MaxNest deep are both at their ends.
	full := bin(deep, "+", sized(api.MaxNodes-api.MaxNest))
	if n, d := sizeByTheWords(full); n != api.MaxNodes || d != api.MaxNest {
		t.Fatal(n, d)
	}
	wantFormed(t, full, true)
	wantFormed(t, not(full), false)
}

// P4.1: Nodes of what is small, and of nil and other types, which count as one.
func TestNodes(t *testing.T) {
	want := func(e Expr, n int) {
		t.Helper()
		if got := Nodes(e); got != n {
			t.Errorf("Nodes(%#v) = %d, want %d", e, got, n)
		}
	}
	want(nil, 1)
	want(lit(1), 1)
	want(lit(-1), 1)
	want(ref(""), 1)
	want(Not{}, 2)
	want(Neg{}, 2)
	want(Bin{}, 3)
	want(bin(lit(1), ">", nil), 3)
	want(bin(not(lit(1)), "+", neg(neg(ref("a")))), 6)
	for _, e := range others() {
		want(e, 1)
		want(not(e), 2)
		want(neg(e), 2)
		want(bin(e, "+", lit(1)), 3)
		want(bin(lit(1), "?", e), 3)
		want(bin(e, "", e), 3)
	}
}

// P4.1: Nodes up to MaxNodes, and MaxNodes + 1 beyond, formed or not.
func TestNodesEnd(t *testing.T) {
	for n := 1; n <= 3*api.MaxNodes; n++ {
		want := min(n, api.MaxNodes+1)
		if got := Nodes(sized(n)); got != want {
			t.Errorf("%d: %d", n, got)
		}
		if got := Nodes(deepened(nil, n-1, not)); got != want {
			t.Errorf("%d deep: %d", n, got)
		}
		if got := Nodes(deepened(&loud{}, n-1, neg)); got != want {
			t.Errorf("%d deep: %d", n, got)
		}
	}
	if got := Nodes(doubled(5)); got != 41 {
		t.Error(got)
	}
}

// R1: what is huge by what it shares, or deep, comes to its end.
func TestHuge(t *testing.T) {
	for _, wrap := range append(wraps, func(x Expr) Expr { return bin(x, "+", x) }, func(x Expr) Expr { return bin(nil, "?", x) }) {
		e := deepened(lit(1), 1<<16, wrap)
		if Formed(e) || Nodes(e) != api.MaxNodes+1 || len(Refs(e)) != 0 {
			t.Error("formed")
		}
		if n, no := Eval(e, nil); n != 0 || no != api.ErrArg {
			t.Error(n, no)
		}
		if Same(e, lit(1)) || Same(nil, e) {
			t.Error("same")
		}
	}
	for _, wrap := range wraps {
		a, b := deepened(lit(1), 1<<18, wrap), deepened(lit(1), 1<<18, wrap)
		if !Same(a, b) || Same(a, wrap(b)) || Same(a, deepened(lit(2), 1<<18, wrap)) {
			t.Error("deep")
		}
	}
	if !Same(doubled(16), doubled(16)) || Same(doubled(16), doubled(17)) || Same(doubled(60), doubled(59)) {
		t.Error("doubled")
	}
}

// wantSame fails unless Same tells that of a and b, whichever comes first.
func wantSame(t *testing.T, a, b Expr, want bool) {
	t.Helper()
	if Same(a, b) != want || Same(b, a) != want {
		t.Errorf("Same(%#v, %#v) isn't %v", a, b, want)
	}
}

// P4.1: Same of what differs in one place alone.
func TestSame(t *testing.T) {
	list := []Expr{
		nil, Lit{}, lit(1), lit(2), lit(-1), lit(1 << 32), lit(math.MinInt64), Ref{}, ref("a"), ref("b"), ref("ab"), ref("A"), ref("1"), ref("a\xff"), ref("a\xfe"),
		Not{}, Neg{}, Bin{}, not(lit(1)), neg(lit(1)), not(lit(2)), not(ref("a")), neg(ref("a")), not(not(lit(1))), not(neg(lit(1))), neg(not(lit(1))), neg(neg(lit(1))),
		Bin{Op: "+"}, Bin{Op: "+", L: lit(1)}, Bin{Op: "+", R: lit(1)}, Bin{L: lit(1), R: lit(1)},
		bin(lit(1), "+", lit(1)), bin(lit(1), "-", lit(1)), bin(lit(1), "<", lit(1)), bin(lit(1), "<=", lit(1)), bin(lit(1), ">", lit(1)),
		bin(lit(2), "+", lit(1)), bin(lit(1), "+", lit(2)), bin(ref("a"), "+", lit(1)), bin(lit(1), "+", ref("a")), bin(ref("a"), "+", ref("b")), bin(ref("b"), "+", ref("a")),
		bin(bin(lit(1), "+", lit(2)), "+", lit(3)), bin(lit(1), "+", bin(lit(2), "+", lit(3))), bin(bin(lit(1), "+", lit(2)), "+", lit(4)), bin(bin(lit(1), "-", lit(2)), "+", lit(3)),
		not(bin(lit(1), "+", lit(2))), bin(not(lit(1)), "+", lit(2)), bin(lit(1), "+", not(lit(2))), bin(neg(lit(1)), "+", lit(2)),
	}
	for i, a := range list {
		for j, b := range list {
			wantSame(t, a, b, i == j)
			for k, h := range holding(a) {
				wantSame(t, h, holding(b)[k], i == j)
			}
		}
	}
}

// P4.1: Same of two that were made apart, however large, and of those with one leaf that is another.
func TestSameLarge(t *testing.T) {
	for n := 1; n <= 3*api.MaxNodes; n++ {
		wantSame(t, sized(n), sized(n), true)
		wantSame(t, sized(n), sized(n+1), false)
		for place := range leaves(sized(n)) {
			changed, _ := withLeaf(sized(n), place, ref("b"))
			wantSame(t, sized(n), changed, false)
		}
	}
	a := deepened(ref(strings.Repeat("a", 1<<20)+"a"), 3, not)
	wantSame(t, a, deepened(ref(strings.Repeat("a", 1<<20)+"a"), 3, not), true)
	wantSame(t, a, deepened(ref(strings.Repeat("a", 1<<20)+"b"), 3, not), false)
}

// leaves is how many Refs e has.
func leaves(e Expr) int {
	switch x := e.(type) {
	case Not:
		return leaves(x.X)
	case Bin:
		return leaves(x.L) + leaves(x.R)
	}
	return 1
}

// withLeaf is e with another leaf in that place, and how many leaves are left to pass over.
func withLeaf(e Expr, place int, leaf Expr) (Expr, int) {
	switch x := e.(type) {
	case Not:
		in, left := withLeaf(x.X, place, leaf)
		return Not{in}, left
	case Bin:
		l, left := withLeaf(x.L, place, leaf)
		r, left := withLeaf(x.R, left, leaf)
		return Bin{x.Op, l, r}, left
	}
	if place == 0 {
		return leaf, -1
	}
	return e, place - 1
}

// P4.1, R1: nil is alike with nil alone; other types are with none of the five, and no call panics at them.
func TestSameNone(t *testing.T) {
	wantSame(t, nil, nil, true)
	for _, e := range []Expr{Lit{}, Ref{}, Not{}, Neg{}, Bin{}} {
		wantSame(t, nil, e, false)
		for _, o := range others() {
			wantSame(t, o, e, false)
			wantSame(t, o, nil, false)
		}
	}
	wantSame(t, likeLit{1}, lit(1), false)
	wantSame(t, holdsLit{Lit{1}}, lit(1), false)
	wantSame(t, &Lit{1}, lit(1), false)
	for _, a := range others() {
		for _, b := range others() {
			// Nothing can be told of what they hold.
			wantSame(t, a, b, false)
			wantSame(t, not(a), not(b), false)
		}
	}
}

// vars are those that most tests go by.
func vars() []api.Var {
	return []api.Var{
		{Name: "x", N: 2}, {Name: "y", N: 0}, {Name: "m", N: -7}, {Name: "x", N: 9}, {Name: "top", N: api.MaxInt}, {Name: "low", N: -api.MaxInt},
		{Name: "over", N: api.MaxInt + 1}, {Name: "under", N: -api.MaxInt - 1}, {Name: "far", N: math.MaxInt64}, {Name: "deep", N: math.MinInt64}, {Name: "over", N: 1}, {Name: "1", N: 1}, {N: 1},
	}
}

// wantValue fails unless Eval answers n and that error.
func wantValue(t *testing.T, e Expr, n int64, no api.Errno) {
	t.Helper()
	if got, gotNo := Eval(e, vars()); got != n || gotNo != no {
		t.Errorf("Eval(%#v) = %d %v, want %d %v", e, got, gotNo, n, no)
	}
}

// P4.2: Lits, Refs, Not and Neg.
func TestEvalOne(t *testing.T) {
	for n, want := range map[int64]int64{0: 1, 1: 0, 2: 0, api.MaxInt: 0} {
		wantValue(t, lit(n), n, api.OK)
		wantValue(t, not(lit(n)), want, api.OK)
		wantValue(t, not(neg(lit(n))), want, api.OK)
		wantValue(t, not(not(lit(n))), 1-want, api.OK)
		wantValue(t, neg(lit(n)), -n, api.OK)
		wantValue(t, neg(neg(lit(n))), n, api.OK)
		wantValue(t, neg(neg(neg(lit(n)))), -n, api.OK)
		wantValue(t, neg(not(lit(n))), -want, api.OK)
	}
	for name, n := range map[string]int64{"x": 2, "y": 0, "m": -7, "top": api.MaxInt, "low": -api.MaxInt} {
		wantValue(t, ref(name), n, api.OK)
		wantValue(t, neg(ref(name)), -n, api.OK)
	}
}

// P4.2: each operator.
func TestEvalOperators(t *testing.T) {
	for _, c := range []struct {
		l    int64
		op   string
		r, n int64
	}{
		{2, "+", 3, 5}, {2, "+", -3, -1}, {-2, "+", -3, -5}, {0, "+", 0, 0},
		{2, "-", 3, -1}, {3, "-", 2, 1}, {-2, "-", -3, 1}, {2, "-", -3, 5}, {2, "-", 2, 0},
		{2, "*", 3, 6}, {2, "*", -3, -6}, {-2, "*", -3, 6}, {0, "*", -3, 0}, {7, "*", 1, 7},
		{2, "<", 3, 1}, {3, "<", 2, 0}, {2, "<", 2, 0}, {-3, "<", -2, 1}, {-2, "<", 2, 1}, {2, "<", -2, 0},
		{2, "<=", 3, 1}, {3, "<=", 2, 0}, {2, "<=", 2, 1}, {-3, "<=", -2, 1}, {-2, "<=", -3, 0}, {-3, "<=", -3, 1},
		{2, "==", 2, 1}, {2, "==", 3, 0}, {3, "==", 2, 0}, {-2, "==", 2, 0}, {-2, "==", -2, 1}, {0, "==", 0, 1},
		{2, "!=", 2, 0}, {2, "!=", 3, 1}, {3, "!=", 2, 1}, {-2, "!=", 2, 1}, {-2, "!=", -2, 0}, {0, "!=", 0, 0},
		{0, "&&", 0, 0}, {0, "&&", 2, 0}, {2, "&&", 0, 0}, {2, "&&", 3, 1}, {-2, "&&", -3, 1}, {-1, "&&", 0, 0}, {1, "&&", 1, 1}, {4, "&&", 3, 1},
		{0, "||", 0, 0}, {0, "||", 2, 1}, {2, "||", 0, 1}, {2, "||", 3, 1}, {-2, "||", 0, 1}, {0, "||", -3, 1}, {1, "||", 1, 1}, {0, "||", 1, 1},
	} {
		wantValue(t, bin(number(c.l), c.op, number(c.r)), c.n, api.OK)
	}
	wantValue(t, bin(bin(ref("x"), "<", lit(3)), "&&", not(ref("y"))), 1, api.OK)
	wantValue(t, bin(bin(lit(9), "-", lit(4)), "-", lit(2)), 3, api.OK)
	wantValue(t, bin(lit(9), "-", bin(lit(4), "-", lit(2))), 7, api.OK)
	wantValue(t, bin(bin(lit(2), "+", lit(3)), "*", bin(ref("m"), "+", lit(1))), -30, api.OK)
}

// number is an expression of that value: a Lit, or a Neg of one.
func number(n int64) Expr {
	if n < 0 {
		return neg(lit(-n))
	}
	return lit(n)
}

// P4.2: sums, differences and products at the ends of the range and beyond them.
func TestEvalRange(t *testing.T) {
	const most = api.MaxInt
	for _, c := range []struct {
		l  int64
		op string
		r  int64
		no api.Errno
	}{
		{most, "+", 0, 0}, {most - 1, "+", 1, 0}, {most / 2, "+", most / 2, 0}, {most, "+", 1, api.ErrRange}, {1, "+", most, api.ErrRange}, {most, "+", most, api.ErrRange}, {most/2 + 1, "+", most / 2, api.ErrRange},
		{-most, "+", 0, 0}, {-most + 1, "+", -1, 0}, {-most, "+", most, 0}, {-most, "+", -1, api.ErrRange}, {-1, "+", -most, api.ErrRange}, {-most, "+", -most, api.ErrRange},
		{most, "-", 0, 0}, {0, "-", most, 0}, {-1, "-", most - 1, 0}, {most, "-", most, 0}, {-1, "-", most, api.ErrRange}, {most, "-", -1, api.ErrRange}, {most, "-", -most, api.ErrRange}, {-most, "-", most, api.ErrRange}, {-most, "-", 1, api.ErrRange},
		{most, "*", 1, 0}, {most, "*", -1, 0}, {-most, "*", -1, 0}, {most, "*", 0, 0}, {most / 2, "*", 2, 0}, {-most / 2, "*", 2, 0}, {31622, "*", 31622, 0}, {most / 10, "*", 10, 0},
		{most/2 + 1, "*", 2, api.ErrRange}, {most/2 + 1, "*", -2, api.ErrRange}, {31623, "*", 31623, api.ErrRange}, {most, "*", 2, api.ErrRange}, {most, "*", most, api.ErrRange}, {-most, "*", most, api.ErrRange}, {-most, "*", -most, api.ErrRange},
		// Products that have their lowest 32 bits in range, or none of them.
		{1 << 16, "*", 1 << 16, api.ErrRange}, {1 << 20, "*", 1 << 20, api.ErrRange}, {1<<16 + 1, "*", 1 << 16, api.ErrRange}, {-1 << 16, "*", 1 << 16, api.ErrRange},
		{most, "<", most, 0}, {-most, "<", most, 0}, {most, "<=", -most, 0}, {most, "==", most, 0}, {most, "!=", -most, 0}, {most, "&&", most, 0}, {0, "||", -most, 0},
	} {
		e := bin(number(c.l), c.op, number(c.r))
		n, _ := valueByTheWords(e, vars())
		if c.no != api.OK {
			n = 0
		}
		wantValue(t, e, n, c.no)
		// What is out of range is told of what holds it too, though that would come back.
		wantValue(t, bin(e, "*", lit(0)), 0, c.no)
	}
}

// P4.2: the variables' numbers at the ends of the range and beyond them, and two variables of one name.
func TestEvalVars(t *testing.T) {
	wantValue(t, ref("x"), 2, api.OK)
	wantValue(t, bin(ref("x"), "+", ref("x")), 4, api.OK)
	for _, name := range []string{"over", "under", "far", "deep"} {
		wantValue(t, ref(name), 0, api.ErrRange)
		wantValue(t, not(ref(name)), 0, api.ErrRange)
		wantValue(t, neg(ref(name)), 0, api.ErrRange)
		for _, op := range operators {
			wantValue(t, bin(ref(name), op, lit(1)), 0, api.ErrRange)
		}
	}
	// The first one of a name counts, right or not.
	twice := []api.Var{{Name: "a", N: 1}, {Name: "a", N: api.MaxInt + 1}, {Name: "b", N: -api.MaxInt - 1}, {Name: "b", N: 1}}
	if n, no := Eval(ref("a"), twice); n != 1 || no != api.OK {
		t.Error(n, no)
	}
	if n, no := Eval(ref("b"), twice); n != 0 || no != api.ErrRange {
		t.Error(n, no)
	}
	// Numbers of variables that aren't asked for may be anything.
	wantValue(t, lit(1), 1, api.OK)
	// A variable's name may be far from any name; it is just not met then.
	strange := []api.Var{{Name: "\xff", N: 1}, {Name: strings.Repeat("a", 100), N: 1}, {Name: "", N: 1}, {Name: "я", N: 5}}
	if n, no := Eval(ref("я"), strange); n != 5 || no != api.OK {
		t.Error(n, no)
	}
	many := make([]api.Var, 100000)
	many[len(many)-1] = api.Var{Name: "last", N: 8}
	if n, no := Eval(bin(ref("last"), "*", ref("last")), many); n != 64 || no != api.OK {
		t.Error(n, no)
	}
}

// P4.2: names that are no variable's.
func TestEvalNone(t *testing.T) {
	for _, name := range []string{"q", "X", "xx", "to", "tops", "ye", "я"} {
		wantValue(t, ref(name), 0, api.ErrNone)
		for i, h := range holding(ref(name)) {
			if i != 6 && i != 7 {
				wantValue(t, h, 0, api.ErrNone)
			}
		}
	}
	for _, none := range [][]api.Var{nil, {}} {
		if n, no := Eval(ref("x"), none); n != 0 || no != api.ErrNone {
			t.Error(n, no)
		}
		if n, no := Eval(bin(lit(2), "*", lit(3)), none); n != 6 || no != api.OK {
			t.Error(n, no)
		}
	}
}

// P4.2, R6: what isn't formed is told ahead of all else, also where it wouldn't be asked.
func TestEvalNotFormed(t *testing.T) {
	wrong := append(others(), nil, lit(-1), lit(api.MaxInt+1), ref(""), ref("1"), ref("a b"), Not{}, Neg{}, bin(lit(1), ">", lit(1)), bin(lit(1), "", lit(1)), sized(api.MaxNodes+1), deepened(lit(1), api.MaxNest, not))
	for _, e := range wrong {
		wantValue(t, e, 0, api.ErrArg)
		for _, h := range holding(e) {
			wantValue(t, h, 0, api.ErrArg)
		}
		wantValue(t, bin(ref("q"), "+", e), 0, api.ErrArg)
		wantValue(t, bin(ref("over"), "+", e), 0, api.ErrArg)
	}
	// A variable of that name makes no name of it.
	wantValue(t, ref("1"), 0, api.ErrArg)
	wantValue(t, Ref{}, 0, api.ErrArg)
	// At its ends it is formed.
	wantValue(t, deepened(lit(0), api.MaxNest-1, not), 1, api.OK)
	full := neg(summed(api.MaxNodes / 2))
	if n, no := Eval(full, []api.Var{{Name: "a", N: 3}}); n != -3*api.MaxNodes/2 || no != api.OK || Nodes(full) != api.MaxNodes {
		t.Error(n, no)
	}
}

// P4.2: of more than one error the first from the left to the right.
func TestEvalFirstError(t *testing.T) {
	none, far := ref("q"), ref("over")
	big := bin(lit(api.MaxInt), "+", lit(1))
	for _, op := range operators {
		wantValue(t, bin(none, op, far), 0, api.ErrNone)
		wantValue(t, bin(far, op, none), 0, api.ErrRange)
		wantValue(t, bin(none, op, big), 0, api.ErrNone)
		wantValue(t, bin(big, op, none), 0, api.ErrRange)
		wantValue(t, bin(bin(lit(1), "+", none), op, far), 0, api.ErrNone)
		wantValue(t, bin(bin(lit(1), "+", far), op, none), 0, api.ErrRange)
		wantValue(t, bin(neg(none), op, not(far)), 0, api.ErrNone)
		wantValue(t, bin(neg(far), op, not(none)), 0, api.ErrRange)
	}
	// A sum's own error comes behind those of both its sides, and ahead of what stands behind it.
	wantValue(t, bin(bin(lit(api.MaxInt), "+", ref("x")), "+", none), 0, api.ErrRange)
	wantValue(t, bin(lit(api.MaxInt), "+", bin(ref("x"), "+", none)), 0, api.ErrNone)
	wantValue(t, bin(bin(lit(1), "+", lit(1)), "-", bin(none, "+", big)), 0, api.ErrNone)
}

// P4.2: && and || don't ask their right side, where the left one tells the value.
func TestEvalUnasked(t *testing.T) {
	for _, wrong := range []Expr{ref("q"), ref("over"), bin(lit(api.MaxInt), "*", lit(2)), bin(lit(1), "&&", ref("q")), not(ref("deep"))} {
		_, no := Eval(wrong, vars())
		for _, zero := range []Expr{lit(0), ref("y"), not(lit(1)), bin(lit(2), "-", lit(2)), bin(lit(0), "&&", wrong)} {
			wantValue(t, bin(zero, "&&", wrong), 0, api.OK)
			wantValue(t, bin(zero, "||", wrong), 0, no)
			wantValue(t, bin(bin(zero, "&&", wrong), "||", lit(7)), 1, api.OK)
			wantValue(t, not(bin(zero, "&&", wrong)), 1, api.OK)
		}
		for _, other := range []Expr{lit(1), lit(2), neg(lit(1)), ref("m"), ref("x"), bin(lit(5), "||", wrong)} {
			wantValue(t, bin(other, "||", wrong), 1, api.OK)
			wantValue(t, bin(other, "&&", wrong), 0, no)
			wantValue(t, bin(bin(other, "||", wrong), "&&", lit(7)), 1, api.OK)
			wantValue(t, neg(bin(other, "||", wrong)), -1, api.OK)
		}
		// The other operators ask both sides, whatever the left one is.
		for _, op := range operators[:7] {
			wantValue(t, bin(lit(0), op, wrong), 0, no)
			wantValue(t, bin(lit(1), op, wrong), 0, no)
		}
	}
}

// P4.3: Refs each once and rising.
func TestRefs(t *testing.T) {
	want := func(e Expr, names ...string) {
		t.Helper()
		if got := Refs(e); !slices.Equal(got, names) {
			t.Errorf("Refs(%#v) = %q, want %q", e, got, names)
		}
	}
	n, k := ref("n"), ref("k")
	want(lit(1))
	want(not(neg(bin(lit(1), "+", lit(2)))))
	want(n, "n")
	want(not(n), "n")
	want(neg(n), "n")
	want(bin(n, "+", k), "k", "n")
	want(bin(k, "+", n), "k", "n")
	want(bin(n, "+", bin(k, "-", n)), "k", "n")
	want(bin(bin(n, "+", n), "*", bin(n, "-", n)), "n")
	// What isn't asked for its value has Refs too.
	want(bin(lit(0), "&&", bin(lit(1), "||", n)), "n")
	// They rise byte by byte.
	want(bin(bin(bin(ref("я"), "+", ref("a1")), "+", bin(ref("a_"), "+", ref("ab"))), "+", bin(bin(ref("Z"), "+", ref("a")), "+", bin(ref("а"), "+", ref("b")))),
		"Z", "a", "a1", "a_", "ab", "b", "а", "я")
	for n := 1; n <= api.MaxNodes; n++ {
		want(sized(n), "a")
	}
}

// P4.3: as many Refs as may be, all of them others.
func TestRefsMany(t *testing.T) {
	const count = api.MaxNodes / 2
	e := summed(count)
	var want []string
	for i := range count {
		name := "v" + string(rune('a'+(i*7)%count))
		e, _ = withLeaf(e, i, ref(name))
		want = append(want, name)
	}
	slices.Sort(want)
	if got := Refs(e); !slices.Equal(got, want) {
		t.Errorf("%q, want %q", got, want)
	}
}

// P4.3: what isn't formed has none.
func TestRefsNotFormed(t *testing.T) {
	wrong := append(others(), nil, lit(-1), ref(""), ref("1"), bin(ref("a"), ">", ref("b")), Not{}, sized(api.MaxNodes+1), deepened(ref("a"), api.MaxNest, neg))
	for _, e := range wrong {
		for _, x := range append(holding(e), e, bin(ref("a"), "+", e), bin(e, "+", ref("a"))) {
			if got := Refs(x); len(got) != 0 {
				t.Errorf("Refs(%#v) = %q", x, got)
			}
		}
	}
}

// panics tells if Must panics of e.
func panics(e Expr) (did bool) {
	defer func() { did = recover() != nil }()
	Must(e)
	return false
}

// P4.3: Must of a Lit, formed or not, and that it panics of all else.
func TestMust(t *testing.T) {
	for _, n := range []int64{0, 1, 7, api.MaxInt, api.MaxInt + 1, -1, math.MaxInt64, math.MinInt64} {
		if got := Must(lit(n)); got != n {
			t.Errorf("Must(%d) = %d", n, got)
		}
	}
	for _, e := range append(others(), nil, ref("a"), not(lit(1)), neg(lit(1)), bin(lit(1), "+", lit(1)), Ref{}, Not{}, Neg{}, Bin{}) {
		if !panics(e) {
			t.Errorf("Must of %T doesn't panic", e)
		}
	}
	if panics(lit(1)) {
		t.Error("Must of a Lit panics")
	}
}

// The chapter's sentences, told once more: names as an expression, sizes by a walk, values in numbers without an end.
var wordsName = regexp.MustCompile(`^[a-zA-Z\x{430}-\x{44F}][a-zA-Z\x{430}-\x{44F}0-9_]{0,23}$`)

// sizeByTheWords is how many nodes e has, and how deep it lies.
func sizeByTheWords(e Expr) (nodes, deep int) {
	var in []Expr
	switch x := e.(type) {
	case Not:
		in = []Expr{x.X}
	case Neg:
		in = []Expr{x.X}
	case Bin:
		in = []Expr{x.L, x.R}
	}
	for _, x := range in {
		n, d := sizeByTheWords(x)
		nodes, deep = nodes+n, max(deep, d)
	}
	return nodes + 1, deep + 1
}

// partsByTheWords tells if all parts of e are right, and adds its Refs' names.
func partsByTheWords(e Expr, names map[string]int) bool {
	switch x := e.(type) {
	case Lit:
		return x.N >= 0 && x.N <= 1000000000
	case Ref:
		names[x.Name]++
		return wordsName.MatchString(x.Name)
	case Not:
		return partsByTheWords(x.X, names)
	case Neg:
		return partsByTheWords(x.X, names)
	case Bin:
		l, r := partsByTheWords(x.L, names), partsByTheWords(x.R, names)
		return l && r && slices.Contains(strings.Fields("+ - * < <= == != && ||"), x.Op)
	}
	return false
}

// wrongValue is what the walk for a value breaks off with.
type wrongValue struct{ no api.Errno }

// valueByTheWords is what Eval should answer of an expression that is formed.
func valueByTheWords(e Expr, vars []api.Var) (n int64, no api.Errno) {
	defer func() {
		if w, ok := recover().(wrongValue); ok {
			n, no = 0, w.no
		}
	}()
	return walkByTheWords(e, vars).Int64(), api.OK
}

// walkByTheWords panics with the first error that it comes to.
func walkByTheWords(e Expr, vars []api.Var) *big.Int {
	ranged := func(n *big.Int) *big.Int {
		if n.CmpAbs(big.NewInt(1000000000)) > 0 {
			panic(wrongValue{api.ErrRange})
		}
		return n
	}
	is := func(b bool) *big.Int { return big.NewInt(map[bool]int64{true: 1}[b]) }
	switch x := e.(type) {
	case Lit:
		return big.NewInt(x.N)
	case Ref:
		i := slices.IndexFunc(vars, func(v api.Var) bool { return v.Name == x.Name })
		if i < 0 {
			panic(wrongValue{api.ErrNone})
		}
		return ranged(big.NewInt(vars[i].N))
	case Not:
		return is(walkByTheWords(x.X, vars).Sign() == 0)
	case Neg:
		return new(big.Int).Neg(walkByTheWords(x.X, vars))
	}
	x := e.(Bin)
	l := walkByTheWords(x.L, vars)
	if x.Op == "&&" || x.Op == "||" {
		if (l.Sign() != 0) == (x.Op == "||") {
			return is(l.Sign() != 0)
		}
		return is(walkByTheWords(x.R, vars).Sign() != 0)
	}
	r := walkByTheWords(x.R, vars)
	switch x.Op {
	case "+":
		return ranged(new(big.Int).Add(l, r))
	case "-":
		return ranged(new(big.Int).Sub(l, r))
	case "*":
		return ranged(new(big.Int).Mul(l, r))
	case "<":
		return is(l.Cmp(r) < 0)
	case "<=":
		return is(l.Cmp(r) <= 0)
	case "==":
		return is(l.Cmp(r) == 0)
	}
	return is(l.Cmp(r) != 0)
}

// wantByTheWords holds all calls but Same against the chapter's sentences, for one expression.
func wantByTheWords(t *testing.T, e Expr) {
	t.Helper()
	names := map[string]int{}
	nodes, deep := sizeByTheWords(e)
	formed := partsByTheWords(e, names) && nodes <= 40 && deep <= 12
	if Formed(e) != formed || Nodes(e) != min(nodes, 41) {
		t.Errorf("%#v: Formed %v, Nodes %d", e, Formed(e), Nodes(e))
	}
	n, no, refs := int64(0), api.ErrArg, []string(nil)
	if formed {
		n, no = valueByTheWords(e, vars())
		for name := range names {
			refs = append(refs, name)
		}
		slices.Sort(refs)
	}
	if got, gotNo := Eval(e, vars()); got != n || gotNo != no {
		t.Errorf("Eval(%#v) = %d %v, want %d %v", e, got, gotNo, n, no)
	}
	if got := Refs(e); !slices.Equal(got, refs) {
		t.Errorf("Refs(%#v) = %q, want %q", e, got, refs)
	}
	if _, is := e.(Lit); is == panics(e) {
		t.Errorf("Must(%#v)", e)
	}
}

// small is every expression of these leaves, one operator or none around them.
func small() []Expr {
	leaves := []Expr{lit(0), lit(2), lit(api.MaxInt), ref("x"), ref("m"), ref("low"), ref("q"), ref("over"), lit(-1), nil}
	list := slices.Clone(leaves)
	for _, l := range leaves {
		list = append(list, not(l), neg(l))
		for _, r := range leaves {
			for _, op := range append([]string{">"}, operators...) {
				list = append(list, bin(l, op, r))
			}
		}
	}
	return list
}

// P4.1 to P4.3: every small expression, alone, within each operator, and on each side of it.
func TestByTheWords(t *testing.T) {
	for _, e := range small() {
		wantByTheWords(t, e)
		wantByTheWords(t, not(e))
		wantByTheWords(t, neg(e))
		for _, op := range operators {
			for _, x := range []Expr{lit(0), lit(3), ref("m"), ref("q"), ref("deep")} {
				wantByTheWords(t, bin(e, op, x))
				wantByTheWords(t, bin(x, op, e))
			}
		}
	}
}

// P4.1: every small expression is like itself alone, made once more.
func TestSameByTheWords(t *testing.T) {
	again := small()
	for i, a := range small() {
		for j, b := range again {
			if Same(a, b) != (i == j) {
				t.Errorf("Same(%#v, %#v)", a, b)
			}
		}
	}
}

// grown is the expression that bytes tell, the first byte first, and what is left of them.
func grown(b []byte, room int) (Expr, []byte) {
	leaves := []Expr{lit(0), lit(1), lit(2), lit(31623), lit(500000000), lit(api.MaxInt), ref("x"), ref("y"), ref("m"), ref("top"), ref("low"), ref("q"), ref("over")}
	wrong := []Expr{nil, likeLit{1}, lit(-1), ref("")}
	if len(b) == 0 || room == 0 {
		return lit(3), b
	}
	kind, b := int(b[0]), b[1:]
	switch {
	case kind < 4:
		return wrong[kind], b
	case kind < 100:
		return leaves[kind%len(leaves)], b
	case kind < 120:
		x, b := grown(b, room-1)
		return not(x), b
	case kind < 140:
		x, b := grown(b, room-1)
		return neg(x), b
	}
	l, b := grown(b, room-1)
	r, b := grown(b, room-1)
	return bin(l, operators[kind%len(operators)], r), b
}

// bit is 1 of true.
func bit(is bool) int {
	if is {
		return 1
	}
	return 0
}

// P4.1 to P4.3: larger expressions that aren't alike, the same ones each time.
func TestByTheWordsLarge(t *testing.T) {
	x := uint32(11)
	formed, valued := 0, 0
	for round := range 30000 {
		b := make([]byte, round%60+1)
		for i := range b {
			x = x*1664525 + 1013904223
			b[i] = byte(x >> 24)
		}
		b[0] |= 0x90
		e, _ := grown(b, 14)
		wantByTheWords(t, e)
		formed += bit(Formed(e))
		_, no := Eval(e, vars())
		valued += bit(no == api.OK)
	}
	// Else the rounds would tell nothing of values.
	if formed < 2000 || valued < 1000 {
		t.Error(formed, valued)
	}
}

// R1, P4.1 to P4.3: no call panics, whatever grows, and all of them do as the sentences say.
func FuzzEval(f *testing.F) {
	for _, b := range [][]byte{{}, {200, 13, 6}, {0}, {110, 110, 130, 6}, {207, 13, 11}, {205, 18, 12}, {150, 5, 1}, slices.Repeat([]byte{110}, 20), slices.Repeat([]byte{150}, 60)} {
		f.Add(b)
	}
	f.Fuzz(func(t *testing.T, b []byte) {
		e, left := grown(b, 16)
		other, _ := grown(left, 16)
		wantByTheWords(t, e)
		again, _ := grown(b, 16)
		Same(e, other)
		if Formed(e) && !Same(e, again) || Formed(e) != Formed(again) {
			t.Errorf("%#v isn't like itself", e)
		}
	})
}

// R1: no call but Must panics at other types, and none of them is asked for its Kind.
func TestOthers(t *testing.T) {
	for _, o := range others() {
		for _, e := range append(holding(o), o) {
			n, no := Eval(e, vars())
			if Formed(e) || n != 0 || no != api.ErrArg || len(Refs(e)) != 0 || Same(e, e) || Same(e, nil) || Same(lit(1), e) {
				t.Errorf("%#v", e)
			}
		}
	}
}

// R2, R5: what is asked once more is answered alike, errors between or not.
func TestNothingIsKept(t *testing.T) {
	for range 3 {
		wantValue(t, bin(ref("x"), "*", ref("m")), -14, api.OK)
		wantValue(t, ref("q"), 0, api.ErrNone)
		wantValue(t, ref("over"), 0, api.ErrRange)
		wantValue(t, nil, 0, api.ErrArg)
		wantFormed(t, sized(api.MaxNodes), true)
		wantFormed(t, sized(api.MaxNodes+1), false)
		if n, no := Eval(ref("x"), []api.Var{{Name: "x", N: 5}}); n != 5 || no != api.OK {
			t.Error(n, no)
		}
		if n, no := Eval(ref("x"), nil); n != 0 || no != api.ErrNone {
			t.Error(n, no)
		}
	}
}

// R3: the variables are left as they are, their spare room too.
func TestVarsAreLeft(t *testing.T) {
	room := append(vars(), api.Var{Name: "spare", N: 3}, api.Var{Name: "room", N: 4})
	want := slices.Clone(room)
	given := room[:len(room)-2]
	if n, no := Eval(ref("spare"), given); n != 0 || no != api.ErrNone {
		t.Error(n, no)
	}
	Eval(bin(ref("x"), "+", ref("m")), given)
	if !slices.Equal(room, want) {
		t.Error(room)
	}
}

// R3: Refs answers new memory, its spare room too, and no name of it is a piece of what was handed in.
func TestRefsAreNew(t *testing.T) {
	name := strings.Clone("name")
	e := bin(ref(name), "+", bin(ref("b"), "+", ref(name)))
	first, second := Refs(e), Refs(e)
	room := second[:cap(second)]
	for i := range room {
		room[i] = "x"
	}
	if third := Refs(e); !slices.Equal(first, []string{"b", "name"}) || !slices.Equal(third, first) {
		t.Errorf("%q %q", first, third)
	}
	if unsafe.StringData(first[1]) == unsafe.StringData(name) {
		t.Error("the name is kept of what was handed in")
	}
	if !Same(e, bin(ref("name"), "+", bin(ref("b"), "+", ref("name")))) {
		t.Error("the expression has changed")
	}
}
