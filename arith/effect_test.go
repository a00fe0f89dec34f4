package arith_test

import (
	"slices"
	"strings"
	"testing"

	"almoner/api"
	"almoner/arith"
)

// effect is an expression with its value and what it assigns: names and values by turns, a word each.
type effect struct {
	s        string
	value    int64
	assigned string
}

func wantEffects(t *testing.T, rows []effect, l ...string) {
	t.Helper()
	for _, x := range rows {
		want(t, x.s, vars(l...), x.value, vars(strings.Fields(x.assigned)...), api.OK)
	}
}

func TestAssign(t *testing.T) {
	wantEffects(t, []effect{
		{"a = 5", 5, "a 5"}, {"a = -5", -5, "a -5"}, {"a = 0", 0, "a 0"}, {"new = a", 40, "new 40"}, {"a = a", 40, "a 40"}, {"a = 0x10", 16, "a 16"}, {"a = 010", 8, "a 8"},
		{"a *= 3", 120, "a 120"}, {"a /= 3", 13, "a 13"}, {"a %= 3", 1, "a 1"}, {"a += 3", 43, "a 43"}, {"a -= 3", 37, "a 37"},
		{"a <<= 3", 320, "a 320"}, {"a >>= 3", 5, "a 5"}, {"a &= 9", 8, "a 8"}, {"a ^= 9", 33, "a 33"}, {"a |= 9", 41, "a 41"},
		{"new *= 3", 0, "new 0"}, {"new += 3", 3, "new 3"}, {"new -= 3", -3, "new -3"}, {"new |= 3", 3, "new 3"}, {"new /= 3", 0, "new 0"}, {"empty += 3", 3, "empty 3"}, {"empty = 3", 3, "empty 3"},
		{"a = b = 5", 5, "b 5 a 5"}, {"a = b += 5", 12, "b 12 a 12"}, {"a += b = 5", 45, "b 5 a 45"}, {"a -= b -= 5", 38, "b 2 a 38"},
		{"(a) + (b = 1)", 41, "b 1"}, {"(a = 1)", 1, "a 1"}, {"((a = 1))", 1, "a 1"}, {"-(a = 1)", -1, "a 1"}, {"a = (b)", 7, "a 7"},
		{"a = 1 + 2", 3, "a 3"}, {"a = 1 < 2", 1, "a 1"}, {"a = 0 ? 1 : 2", 2, "a 2"}, {"a = 0 || 2", 1, "a 1"},
		{"a = 9223372036854775807 + 1", least, "a -9223372036854775808"}, {"a = ~0", -1, "a -1"},
	}, "a", "40", "b", "7", "empty", "")
	for _, sign := range assigns() {
		wantForms(t, "1"+sign+"2", "(a)"+sign+"2", "-a"+sign+"2", "a+b"+sign+"2", "a?b:c"+sign+"2", "a||b"+sign+"2", "a"+sign, sign+"a", "a"+sign+")", "a"+sign+" "+sign+"1", "a"+sign+"1"+sign+"1", "!a"+sign+"1", "1?a"+sign+"1", "a b"+sign+"1", "a"+sign+"*1")
		want(t, "1?a"+sign+"4:c", vars("a", "1"), assignedBy(sign, 1, 4), decimals("a", assignedBy(sign, 1, 4)), api.OK)
		want(t, "a"+sign+"(4)", vars("a", "-9"), assignedBy(sign, -9, 4), decimals("a", assignedBy(sign, -9, 4)), api.OK)
	}
}

// assignedBy works an operator that assigns out by the one that it is made of.
func assignedBy(sign string, old, right int64) int64 {
	if sign == "=" {
		return right
	}
	v, _, _ := arith.Value("("+decimal(old)+")"+sign[:len(sign)-1]+"("+decimal(right)+")", nil)
	return v
}

// TestAssignedNames reads names behind their assignments, and ahead of them.
func TestAssignedNames(t *testing.T) {
	wantEffects(t, []effect{
		{"(a = 3) + a", 6, "a 3"}, {"a + (a = 3)", 43, "a 3"}, {"a * (a = 3) * a", 360, "a 3"}, {"a - (a -= 1)", 1, "a 39"},
		{"(a = 3) + (a = 4) + a", 11, "a 4"}, {"(a += 1) + (a += 1)", 83, "a 42"},
		{"a = a = 5", 5, "a 5"}, {"a += a = 5", 10, "a 10"}, {"a += (a = 5)", 10, "a 10"}, {"a -= a += 1", 0, "a 0"}, {"a *= (a = 2) + (a = 3)", 15, "a 15"}, {"a += a += a += 1", 164, "a 164"},
		{"(x = 0) + (x ? 5 : 6)", 6, "x 0"}, {"(bad = 2) + bad", 4, "bad 2"}, {"bad = 1", 1, "bad 1"}, {"bad += bad = 4", 8, "bad 8"}, {"(bad = 4) && (bad += 1)", 1, "bad 5"},
	}, "a", "40", "bad", "no")
}

// TestOrderOfVars asks for the names by their first assignments, each with its last value.
func TestOrderOfVars(t *testing.T) {
	wantEffects(t, []effect{
		{"(z = 1) + (y = 2) + (x = 3)", 6, "z 1 y 2 x 3"}, {"(b = 1) + (a = 2) + (b = 3)", 6, "b 3 a 2"}, {"x = y = z = 1", 1, "z 1 y 1 x 1"},
		{"x = (b = 1) + (c = 2)", 3, "b 1 c 2 x 3"}, {"(a += 1) + (b += 1) + (a += 1)", 4, "a 2 b 1"}, {"b = (a = 1) + (b = 2) * (c = 3)", 7, "a 1 b 7 c 3"},
		{"(p = 1) ? (q = 2) : (r = 3)", 2, "p 1 q 2"}, {"(p = 0) ? (q = 2) : (r = 3)", 3, "p 0 r 3"}, {"(p = 0) || (q = 2)", 1, "p 0 q 2"}, {"(p = 1) && (q = 0)", 0, "p 1 q 0"},
		{"(a = 1) < (A = 2)", 1, "a 1 A 2"}, {"-(b = 1) - ~(a = 1)", 1, "b 1 a 1"}, {"(a = 1) << (b = 2)", 4, "a 1 b 2"},
	})
	// Names that are only read, and variables that no name asks for, are not told.
	wantEffects(t, []effect{{"a + b", 3, ""}, {"x = a + b", 3, "x 3"}, {"1", 1, ""}, {"", 0, ""}}, "a", "1", "b", "2", "bad", "no")
}

// TestManyVars assigns as many names as fit.
func TestManyVars(t *testing.T) {
	var s []string
	var assigned []api.Var
	sum := int64(0)
	for i := range 36 {
		name := "zyxwvutsrqponmlkjihgfedcbaZYXWVUTSRQPO"[i : i+1]
		s = append(s, "("+name+"="+decimal(int64(i))+")")
		assigned = append(assigned, vars(name, decimal(int64(i)))...)
		sum += int64(i)
	}
	want(t, strings.Join(s, "+"), nil, sum, assigned, api.OK)
}

// TestOnlyNamesAndValues asks for Vars without marks, whatever those of the arguments are.
func TestOnlyNamesAndValues(t *testing.T) {
	l := []api.Var{{Name: "a", Value: "1", Export: true, Readonly: true}}
	want(t, "a += 1", l, 2, []api.Var{{Name: "a", Value: "2"}}, api.OK)
	want(t, "a", l, 1, nil, api.OK)
}

// TestNotEvaluated leaves out the operands that do not decide.
func TestNotEvaluated(t *testing.T) {
	for _, part := range []string{"(x = 1)", "(x += 1)", "1 / 0", "1 % 0", "bad", "(bad += 1)", "(x /= 0)", "(x = bad)", "(1 + 2 * (x = 1 / 0))", "-bad", "(1 && bad)", "(0 || (x = 1))", "(1 ? x = 1 : 2)"} {
		for s, value := range map[string]int64{
			"0 && _": 0, "1 || _": 1, "5 || _": 1, "1 ? 2 : _": 2, "0 ? _ : 3": 3, "0 && _ && _": 0, "1 || _ || _": 1, "0 && _ || 0": 0, "0 && _ || 7": 1, "1 || _ && _": 1, "0 && (_ || 1)": 0,
			"1 || 0 && _": 1, "1 ? 0 ? _ : 4 : _": 4, "0 ? _ : 1 ? 5 : _": 5, "0 && _ ? _ : 6": 6, "(0 && _) + (1 || _)": 1, "!(0 && _)": 1, "0 && 1 ? _ : 2": 2, "-1 || _": 1, "1 || 1 / 0 || _": 1, "0 ? 1 ? _ : _ : 8": 8,
		} {
			wantValue(t, strings.ReplaceAll(s, "_", part), value, "bad", "no")
		}
	}
	wantEffects(t, []effect{
		{"1 && (x = 1)", 1, "x 1"}, {"0 || (x = 1)", 1, "x 1"}, {"0 || (x = 0)", 0, "x 0"}, {"1 ? x = 2 : (y = 3)", 2, "x 2"}, {"0 ? x = 2 : (y = 3)", 3, "y 3"},
		{"(x = 0) && (y = 1) || (z = 5)", 1, "x 0 z 5"}, {"1 && 1 && (x = 2)", 1, "x 2"}, {"1 && 0 && (x = 2)", 0, ""}, {"0 || 0 || (x = 2)", 1, "x 2"}, {"0 && (x = 1) || (y = 2)", 1, "y 2"},
		// Neither & nor | nor * knows its value ahead of the second operand.
		{"0 & (x = 1)", 0, "x 1"}, {"-1 | (x = 1)", -1, "x 1"}, {"0 * (x = 1)", 0, "x 1"}, {"0 < (x = 1)", 1, "x 1"}, {"0 == (x = 1)", 0, "x 1"}, {"0 << (x = 1)", 0, "x 1"},
	})
	for s, err := range map[string]api.Errno{"1 && 1 / 0": api.ErrZero, "0 || bad": api.ErrUnset, "1 ? bad : 2": api.ErrUnset, "0 ? 1 : 2 % 0": api.ErrZero, "0 & bad": api.ErrUnset, "1 | 1 / 0": api.ErrZero, "bad && 0": api.ErrUnset, "1 / 0 || 1": api.ErrZero, "bad ? 1 : 2": api.ErrUnset} {
		wantError(t, s, err, "bad", "no")
	}
}

func TestZero(t *testing.T) {
	for _, s := range []string{"1 / 0", "1 % 0", "0 / 0", "0 % 0", "-1 / 0", "1 / (1 - 1)", "1 / !5", "1 % 00", "1 / 0x0", "1 / a", "1 % b", "1 / empty", "1 / none", "a /= 0", "a %= 0", "n /= 0", "n %= b", "none /= none", "n /= n = 0", "-(1 / 0)", "!(1 % 0)", "x = 1 / 0", "x += 1 / 0", "(x = 1) / (y = 0)", "1 / 0 * 0", "0 * (1 / 0)", "1 / 18446744073709551616", "1 / 0 ? 1 : 2", "-9223372036854775808 / 0", "1 == 1 / 0", "1 << 1 % 0", "1 / 0 / 0", "1 / 0 + 1"} {
		wantError(t, s, api.ErrZero, "a", "0", "b", "-0", "n", "5", "empty", "")
	}
}

// TestFirstError lays several errors into one expression.
func TestFirstError(t *testing.T) {
	l := []string{"bad", "no", "worse", "1 2", "nil", "0"}
	for _, s := range []string{"1 / 0 + bad", "1 % 0 + bad", "(1 / 0) * bad", "1 / nil + bad", "bad2 / 0 + bad", "bad = 1 / 0", "bad += 1 / 0", "bad /= 1 % 0", "1 / 0 ? bad : worse", "1 / 0 && bad", "(bad = 0) / bad + worse", "1 / 0 < bad", "-(1 / 0) - -bad", "(1 ? 1 / 0 : bad) + bad", "x = 1 / 0 + bad", "2 * (3 - 1 / 0) - bad"} {
		wantError(t, s, api.ErrZero, l...)
	}
	for _, s := range []string{"bad + 1 / 0", "bad / 0", "bad % 0", "bad / 0 + 1 / 0", "1 / bad", "0 / bad", "1 / bad / 0", "bad /= 0", "bad %= 0", "bad /= nil", "bad && 1 / 0", "bad ? 1 / 0 : 1 / 0", "x = bad + 1 / 0", "x /= bad", "1 / (bad * 0)", "1 / (0 * bad)", "worse + bad", "(x = bad) / 0", "bad < 1 / 0", "(0 || bad) + 1 / 0", "bad -= 1", "bad - 1 / 0 * 2"} {
		wantError(t, s, api.ErrUnset, l...)
	}
	// What is no expression is told first, wherever that is.
	for _, s := range []string{"1 / 0 +", "bad +", "1 / 0)", "bad)", "1 / 0 1", "bad bad", "(1 / 0", "(bad", "1 / 0 = 2", "bad + 1 = 2", "0 && )", "1 || +", "1 ? 2 : )", "0 ? ) : 1", "1 / 0 ,", "bad $", "1 / 0 ? 1", "1 || (1", "1 / 0" + strings.Repeat(" ", 252), "bad" + strings.Repeat(" ", 254), "1 / 0 + " + nest(8, "(", "1", ")"), "bad + " + nest(23, "-", "1", ""), "1 || " + nest(8, "(", "1", ")")} {
		wantError(t, s, api.ErrForm, l...)
	}
	// With an error the assignments ahead of it are not told.
	wantError(t, "(x = 1) + 1 / 0", api.ErrZero, l...)
	wantError(t, "(x = 1) + bad", api.ErrUnset, l...)
	wantError(t, "(x = 1) +", api.ErrForm, l...)
}

// TestOwnership overwrites what was given and what came back.
func TestOwnership(t *testing.T) {
	l := []api.Var{{Name: "a", Value: "1", Export: true}, {Name: "b", Value: "2", Readonly: true}, {Name: "spare"}}
	kept := slices.Clone(l)
	_, first, _ := arith.Value("(a = 7) + (b = 8) + (c = 9)", l[:2])
	if !slices.Equal(l, kept) {
		t.Errorf("the variables that were given became %v", l)
	}
	l[0], l[1] = api.Var{}, api.Var{}
	if !slices.Equal(first, vars("a", "7", "b", "8", "c", "9")) {
		t.Errorf("the answer became %v", first)
	}
	_, second, _ := arith.Value("(a = 7) + (b = 8) + (c = 9)", kept)
	for i := range first {
		first[i] = api.Var{Name: "x", Value: "x"}
	}
	if !slices.Equal(second, vars("a", "7", "b", "8", "c", "9")) {
		t.Errorf("the other answer became %v", second)
	}
	want(t, "c", kept, 0, nil, api.OK) // nothing is kept from call to call
	want(t, "a + b", kept, 3, nil, api.OK)
}

// TestManyGiven finds names in a list of a million variables.
func TestManyGiven(t *testing.T) {
	l := make([]api.Var, 1000000)
	for i := range l {
		l[i] = api.Var{Name: "n" + decimal(int64(i)), Value: decimal(int64(i))}
	}
	want(t, "n999999 - n0 + none", l, 999999, nil, api.OK)
	want(t, "n999999 += n500000", l, 1499999, vars("n999999", "1499999"), api.OK)
}
