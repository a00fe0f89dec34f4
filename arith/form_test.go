package arith_test

import (
	"strings"
	"testing"

	"almoner/api"
	"almoner/arith"
)

// levels are the operators with two operands, from the lowest level of precedence.
func levels() [][]string {
	return [][]string{
		{"||"}, {"&&"}, {"|"}, {"^"}, {"&"}, {"==", "!="}, {"<", "<=", ">", ">="}, {"<<", ">>"}, {"+", "-"}, {"*", "/", "%"},
	}
}

func assigns() []string {
	return []string{"=", "*=", "/=", "%=", "+=", "-=", "<<=", ">>=", "&=", "^=", "|="}
}

// wantSame holds two ways to write an expression against each other, for small values of a, b, c and d. They must differ from a third one for some of the values, if there is one.
func wantSame(t *testing.T, s, same, other string) {
	t.Helper()
	differs := other == ""
	small := []string{"-3", "-1", "0", "1", "2"}
	for n := range 5 * 5 * 5 * 5 {
		l := vars("a", small[n%5], "b", small[n/5%5], "c", small[n/25%5], "d", small[n/125])
		got := answerOf(s, l)
		if wanted := answerOf(same, l); got != wanted || got == formError {
			t.Fatalf("%q is %s, but %q is %s, with %v", s, got, same, wanted, l)
		}
		differs = differs || got != answerOf(other, l)
	}
	if !differs {
		t.Errorf("%q is always the same as %q", s, other)
	}
}

const formError = "0 error 17"

// answerOf writes an answer as one text.
func answerOf(s string, l []api.Var) string {
	v, assigned, err := arith.Value(s, l)
	text := decimal(v) + " " + err.Error()
	for _, x := range assigned {
		text += " " + x.Name + "=" + x.Value
	}
	return text
}

// TestPrecedence lays each two operators side by side.
func TestPrecedence(t *testing.T) {
	for i, low := range levels() {
		for j, high := range levels() {
			for _, x := range low {
				for _, y := range high {
					first, second := "(a"+x+"b)"+y+"c", "a"+x+"(b"+y+"c)"
					other := second
					if i < j {
						first, other = second, first
					}
					if !sameEitherWay(x, y) {
						wantSame(t, "a"+x+"b"+y+"c", first, other)
					} else {
						wantSame(t, "a"+x+"b"+y+"c", first, "")
					}
				}
			}
		}
	}
}

// sameEitherWay reports whether it does not matter which of two operators comes first.
func sameEitherWay(x, y string) bool {
	switch x + " " + y {
	case "|| ||", "&& &&", "| |", "^ ^", "& &", "+ +", "+ -", "* *", "* <<":
		return true
	}
	return false
}

func TestPrecedenceOfThree(t *testing.T) {
	wantSame(t, "a+b*c-d", "(a+(b*c))-d", "a+(b*(c-d))")
	wantSame(t, "a-b-c-d", "((a-b)-c)-d", "(a-b)-(c-d)")
	wantSame(t, "a|b^c&d", "a|(b^(c&d))", "((a|b)^c)&d")
	wantSame(t, "a||b&&c||d", "(a||(b&&c))||d", "(a||b)&&(c||d)")
	wantSame(t, "a<b==c<d", "(a<b)==(c<d)", "((a<b)==c)<d")
	wantSame(t, "a<<b+c*d", "a<<(b+(c*d))", "((a<<b)+c)*d")
	wantSame(t, "-a*b", "(-a)*b", "")
	wantSame(t, "~a+b", "(~a)+b", "~(a+b)")
	wantSame(t, "!a==b", "(!a)==b", "!(a==b)")
	wantSame(t, "-a%b", "(-a)%b", "")
	wantSame(t, "~a*b", "(~a)*b", "~(a*b)")
	wantSame(t, "a||b?c:d", "(a||b)?c:d", "a||(b?c:d)")
	wantSame(t, "a?b:c||d", "a?b:(c||d)", "(a?b:c)||d")
	wantSame(t, "a?b:c-d", "a?b:(c-d)", "(a?b:c)-d")
	wantSame(t, "a-b?c:d", "(a-b)?c:d", "a-(b?c:d)")
	wantSame(t, "a?b:c?d:a", "a?b:(c?d:a)", "(a?b:c)?d:a")
	wantSame(t, "a?b?c:d:a", "a?(b?c:d):a", "")
	wantSame(t, "a?b?c:d:b?d:c", "a?(b?c:d):(b?d:c)", "")
	wantSame(t, "x=a?b:c", "x=(a?b:c)", "(x=a)?b:c")
	wantSame(t, "x=a||b", "x=(a||b)", "(x=a)||b")
	wantSame(t, "a?x=b:c", "a?(x=b):c", "")
	wantSame(t, "a-=b-=c", "a-=(b-=c)", "(a-b)-c")
}

// TestLongestOperator reads operators without blanks between them.
func TestLongestOperator(t *testing.T) {
	wantRows(t, []row{
		{"1<<2", 4}, {"1<-2", 0}, {"1<=2", 1}, {"2>=2", 1}, {"8>>2", 2}, {"1&&2", 1}, {"1& +2", 0}, {"1||2", 1}, {"a==5", 1}, {"a!=5", 0}, {"a!=!5", 1}, {"a==-5", 0}, {"a<=~5", 0},
		{"1&-2", 0}, {"1|~2", -3}, {"1&&-2", 1}, {"1||!2", 1}, {"a<!0", 0}, {"a>-a", 1}, {"!a==!b", 1},
	}, "a", "5", "b", "6")
	want(t, "a=-1", nil, -1, vars("a", "-1"), api.OK)
	want(t, "a=!0", nil, 1, vars("a", "1"), api.OK)
	want(t, "a=~0", nil, -1, vars("a", "-1"), api.OK)
	want(t, "a=+1", nil, 1, vars("a", "1"), api.OK)
	want(t, "a-=-1", nil, 1, vars("a", "1"), api.OK)
	want(t, "a<<=1", vars("a", "3"), 6, vars("a", "6"), api.OK)
	want(t, "a>>=1", vars("a", "3"), 1, vars("a", "1"), api.OK)
	wantForms(t, "1<<=2", "1-=1", "1+=1", "a===b", "a!==b", "a<==b", "a=<b", "a=>b", "a=!=b", "a=&b", "a<<<b", "a>>>b", "a<<<=b", "a&&&b", "a|||b", "a&&=b", "a||=b", "a<>b",
		"a**b", "a//b", "a%%b", "a^^b", "a*/b", "a**=b", "a+-=b", "a-+=b", "a!b", "a~b", "a~=b", "a::b", "a??b:c", "a?b::c", "a?:b", "a+=", "a=", "=1", "+=1", "a!=", "a<<", "a?=b:c")
}

// TestSideBySide lays each two operators side by side without a blank, and with one.
func TestSideBySide(t *testing.T) {
	signs := append(assigns(), "?", ":", "~", "!", "(", ")")
	for _, l := range levels() {
		signs = append(signs, l...)
	}
	known := map[string]bool{}
	for _, x := range signs {
		known[x] = true
	}
	for _, x := range signs {
		for _, y := range signs {
			if joins(x, y, known) {
				continue
			}
			for _, ends := range []string{"a_b", "a_1)", "a_b:c", "(a_b", "a?b_c"} {
				s := strings.ReplaceAll(ends, "_", x+y)
				v, l, err := arith.Value(s, vars("b", "3"))
				want(t, strings.ReplaceAll(ends, "_", x+" "+y), vars("b", "3"), v, l, err)
			}
		}
	}
}

// joins reports whether the beginning of y makes x longer.
func joins(x, y string, known map[string]bool) bool {
	for i := range y {
		if known[x+y[:i+1]] {
			return true
		}
	}
	return false
}

func TestNotAnExpression(t *testing.T) {
	wantForms(t, "x = 5, ", "1,2", "a;b", "a b", "1 a", "a 1", "1 1", "* 1", "/ 1", "1 *", "&& 1", "1 ||", "1 + * 2", "1 + / 2", "< 1", "1 <", "= 1", "1 = 1", "? 1 : 2", "1 ?", "1 ? 2", "1 ? 2 :", "1 ? : 2", "1 : 2", ": 1", "1 ? 2 : 3 : 4", "1 ? 2 ? 3 : 4", "(1 ? 2) : 3", "1 ? (2 : 3)", "?", ":", "=", "\\", "\"1\"", "'1'", "`1`", "$1", "@", "#", "1 2 +", "a ++", "1 + \x00")
}

func TestLength(t *testing.T) {
	longest := strings.Repeat("1+", 127) + "10"
	wantValue(t, longest, 137)
	wantValue(t, strings.Repeat(" ", 255)+"7", 7)
	wantValue(t, "7"+strings.Repeat("\n", 255), 7)
	wantValue(t, "("+strings.Repeat("\t", 253)+"7)", 7)
	wantForms(t, longest+"0", longest+" ", " "+longest, strings.Repeat(" ", 257), strings.Repeat("1", 257), strings.Repeat("a", 257), strings.Repeat(" ", 256)+"7", strings.Repeat("1", 1000000), strings.Repeat("(", 1000000), strings.Repeat("-", 257)+"1")
	wantForms(t, strings.Repeat("(", 256), strings.Repeat("-", 256), strings.Repeat("a=", 128), strings.Repeat("1?", 128), strings.Repeat(")", 256), strings.Repeat("1 ", 128))
}

// nest is an expression that nests deeper the greater n is.
func nest(n int, left, middle, right string) string {
	return strings.Repeat(left, n) + middle + strings.Repeat(right, n)
}

// TestDeep counts the assignments, choices and unaries around the innermost unary: the 1 alone is a unary within a choice, which is within an assignment.
func TestDeep(t *testing.T) {
	wantValue(t, nest(7, "(", "1", ")"), 1) // each pair of parentheses is a unary with an assignment and a choice
	wantForms(t, nest(8, "(", "1", ")"))
	wantValue(t, nest(7, "(", "-1", ")"), -1)
	wantForms(t, nest(7, "(", "--1", ")"))
	wantValue(t, "-"+nest(7, "(", "1", ")"), -1)
	wantForms(t, "--"+nest(7, "(", "1", ")"))
	for _, sign := range []string{"-", "+", "~", "!"} {
		v, _, err := arith.Value(nest(22, sign, "0", ""), nil)
		if v != 0 || err != api.OK {
			t.Errorf("22 of %s: %d, %v", sign, v, err)
		}
		wantForms(t, nest(23, sign, "0", ""))
	}
	want(t, nest(22, "a=", "1", ""), nil, 1, vars("a", "1"), api.OK)
	wantForms(t, nest(23, "a=", "1", ""))
	want(t, nest(22, "a+=", "1", ""), nil, 2097152, vars("a", "2097152"), api.OK)
	wantForms(t, nest(23, "a+=", "1", ""))
	wantValue(t, nest(21, "0?1:", "2", ""), 2) // what stands ahead of the last `:` is an assignment within 21 choices
	wantForms(t, nest(22, "0?1:", "2", ""))
	wantValue(t, nest(11, "1?", "2", ":3"), 2)
	wantForms(t, nest(12, "1?", "2", ":3"))
	wantValue(t, nest(10, "1?", "--2", ":3"), 2)
	wantForms(t, nest(11, "1?", "-2", ":3"))
	wantValue(t, nest(5, "(-", "1", ")"), -1)
	wantForms(t, nest(6, "(-", "1", ")"))
	want(t, nest(5, "(a=", "1", ")"), nil, 1, vars("a", "1"), api.OK)
	wantForms(t, nest(6, "(a=", "1", ")"))
	wantForms(t, nest(30, "(", "1", ")"), nest(100, "(", "1", ")"))
}

// TestNotDeep repeats what stands side by side, which is not nested.
func TestNotDeep(t *testing.T) {
	deep := nest(7, "(", "1", ")")
	wantValue(t, strings.Repeat(deep+"+", 15)+deep, 16)
	wantValue(t, deep+"?"+deep[1:len(deep)-1]+":"+deep[1:len(deep)-1], 1)
	wantValue(t, "1?1:"+deep, 1)
	want(t, "a="+deep, nil, 1, vars("a", "1"), api.OK)
	wantForms(t, "1?"+deep+":1", "1?1:1?1:"+deep, "a=b="+deep, "-a="+deep, "--"+deep)
	wantValue(t, strings.Repeat("--1+", 63)+"1", 64)
	wantValue(t, strings.Repeat("1-", 127)+"1", -126)
	wantValue(t, strings.Repeat("1||", 85)+"1", 1)
	wantValue(t, strings.Repeat("(0)+", 63)+"1", 1)
	for _, l := range levels() {
		for _, sign := range l {
			if _, _, err := arith.Value(strings.Repeat("1"+sign, 60)+"1", nil); err != api.OK {
				t.Errorf("%s sixty times: %v", sign, err)
			}
		}
	}
}
