package arith_test

import (
	"math"
	"slices"
	"strings"
	"testing"

	"almoner/api"
	"almoner/arith"
)

const (
	least    = math.MinInt64
	greatest = math.MaxInt64
)

// vars makes a list of variables: names and values by turns.
func vars(l ...string) []api.Var {
	var made []api.Var
	for i := 0; i < len(l); i += 2 {
		made = append(made, api.Var{Name: l[i], Value: l[i+1]})
	}
	return made
}

// want holds the answer of Value against what it has to be.
func want(t *testing.T, s string, l []api.Var, value int64, assigned []api.Var, err api.Errno) {
	t.Helper()
	v, a, e := arith.Value(s, l)
	if v != value || !slices.Equal(a, assigned) || e != err {
		t.Errorf("Value(%q) = %d, %v, %v; want %d, %v, %v", s, v, a, e, value, assigned, err)
	}
}

// wantValue asks for a value without any assignment.
func wantValue(t *testing.T, s string, value int64, l ...string) {
	t.Helper()
	want(t, s, vars(l...), value, nil, api.OK)
}

// wantError asks for an error, with neither a value nor variables.
func wantError(t *testing.T, s string, err api.Errno, l ...string) {
	t.Helper()
	want(t, s, vars(l...), 0, nil, err)
}

// wantForms asks for ErrForm of each of l, with variables that all have values.
func wantForms(t *testing.T, l ...string) {
	t.Helper()
	for _, s := range l {
		wantError(t, s, api.ErrForm, "a", "1", "b", "2", "c", "3")
	}
}

// row is an expression and its value.
type row struct {
	s     string
	value int64
}

func wantRows(t *testing.T, rows []row, l ...string) {
	t.Helper()
	for _, x := range rows {
		wantValue(t, x.s, x.value, l...)
	}
}

func TestExamples(t *testing.T) {
	wantValue(t, "1 + 2 * 3", 7)
	wantError(t, "x = 5, ", api.ErrForm)
	want(t, "a += 2", vars("a", "40"), 42, vars("a", "42"), api.OK)
	wantValue(t, "0 && (x = 1)", 0)
	wantError(t, "1 / 0", api.ErrZero)
	wantValue(t, "010 + 0x1F", 39)
	wantValue(t, "-7 / 2", -3)
	wantValue(t, "a ? 1 : 2", 2)
}

func TestBlanks(t *testing.T) {
	for _, s := range []string{"", " ", "\t", "\n", " \t\n \n\t", strings.Repeat(" ", 256)} {
		wantValue(t, s, 0)
		wantValue(t, s, 0, "a", "no number")
	}
	for _, b := range []string{" ", "\t", "\n", "\n\n", " \t \n"} {
		wantValue(t, strings.ReplaceAll("_1_+_(_2_-_-_a_)_*_3_", "_", b), 22, "a", "5")
		want(t, strings.ReplaceAll("_a_<<=_1_?_2_:_b_", "_", b), vars("a", "3"), 12, vars("a", "12"), api.OK)
	}
	wantValue(t, "1+(2- -a)*3", 22, "a", "5")
	// A blank within a constant, a name or an operator parts it.
	wantForms(t, "1 2", "0 x1", "0x 1", "a b", "a 1", "1 a", "1\t2", "a\nb")
	wantForms(t, "1 < < 2", "1 < = 2", "1 & & 2", "1 | | 2", "1 = = 2", "1 ! = 2", "a + = 1", "a << = 1", "a < <= 1", "a * = 1")
	// Other bytes that look blank are not.
	wantForms(t, "\r", "1\r", "\v1", "1\f", "1 \x00", "\u00a01", "1\x85")
}

// TestBytes lays every byte alone, behind a 1, and between a 1 and a 2.
func TestBytes(t *testing.T) {
	alone, behind, between := map[byte]int64{}, map[byte]int64{}, map[byte]int64{}
	for d := range byte(10) {
		alone['0'+d], behind['0'+d] = int64(d), 10+int64(d)
		between['0'+d] = 102 + 10*int64(d)
	}
	for _, b := range []byte(" \t\n") {
		alone[b], behind[b] = 0, 1
	}
	for b := range byte(128) {
		if b == '_' || 'a' <= b && b <= 'z' || 'A' <= b && b <= 'Z' {
			alone[b] = 77
		}
	}
	for b, v := range map[byte]int64{'+': 3, '-': -1, '*': 2, '/': 0, '%': 1, '&': 0, '|': 3, '^': 3, '<': 1, '>': 0} {
		between[b] = v
	}
	for i := range 256 {
		b := byte(i)
		c := string([]byte{b})
		for s, l := range map[string]map[byte]int64{c: alone, "1" + c: behind, "1" + c + "2": between} {
			if v, is := l[b]; is {
				wantValue(t, s, v, c, "77")
			} else {
				wantError(t, s, api.ErrForm, c, "77")
			}
		}
	}
}

func TestConstants(t *testing.T) {
	wantRows(t, []row{
		{"0", 0}, {"1", 1}, {"9", 9}, {"10", 10}, {"1234567890", 1234567890}, {"908", 908},
		{"00", 0}, {"000", 0}, {"01", 1}, {"07", 7}, {"010", 8}, {"0777", 511}, {"0010", 8}, {"01234567", 342391},
		{"0x0", 0}, {"0X0", 0}, {"0x1", 1}, {"0x00f", 15}, {"0xF", 15}, {"0Xa", 10}, {"0XfF", 255}, {"0x10", 16},
		{"0x123456789", 4886718345}, {"0xabcdef", 11259375}, {"0xABCDEF", 11259375}, {"0xe+1", 15}, {"0x9", 9},
	})
	wantForms(t, "08", "09", "018", "0778", "0x", "0X", "0xg", "0xG", "0x-1", "0x 1", "0xx1", "0x1x", "00x1", "1x1", "0b1", "1a", "1_", "1_000", "12ab", "0x1g", "0a", "1e3", "1.5", ".5", "1.", "x0x1 0")
}

func TestConstantsWrap(t *testing.T) {
	wantRows(t, []row{
		{"9223372036854775807", greatest}, {"9223372036854775808", least}, {"9223372036854775809", least + 1},
		{"18446744073709551615", -1}, {"18446744073709551616", 0}, {"18446744073709551617", 1},
		{"100000000000000000000", 7766279631452241920},
		{"0x7fffffffffffffff", greatest}, {"0x8000000000000000", least}, {"0xFFFFFFFFFFFFFFFF", -1},
		{"0x10000000000000000", 0}, {"0x123456789abcdef0123456789abcdef", 81985529216486895},
		{"0777777777777777777777", greatest}, {"01000000000000000000000", least}, {"01777777777777777777777", -1},
		{"02000000000000000000000", 0}, {"02000000000000000000005", 5},
		{"-9223372036854775808", least},
	})
	wantValue(t, "1"+strings.Repeat("0", 255), 0) // 2 divides it 255 times
	wantValue(t, "0x"+strings.Repeat("f", 254), -1)
	wantValue(t, strings.Repeat("0", 255)+"7", 7)
}

func TestNames(t *testing.T) {
	for _, n := range []string{"a", "z", "A", "Z", "_", "__", "a1", "_1", "aZ_9", "x0x1", "e3", "if", strings.Repeat("n", 256)} {
		wantValue(t, n, 12, "other", "1", n, "12")
		wantValue(t, n, 0, "other", "1", n+n, "12")
	}
	wantValue(t, "a", 0, "A", "1")
	wantValue(t, "ab", 3, "a", "1", "b", "2", "ab", "3")
	wantValue(t, "a - b", 0)
	wantForms(t, "$a", "${a}", "a.b", "a-", "a$", "\u00e9", "a\u00e9", "a b", "'a'", "a[0]", "a, b", "a;", "#a", "a#")
}

func TestFirstVar(t *testing.T) {
	wantValue(t, "a", 1, "a", "1", "a", "2")
	wantValue(t, "a", 0, "a", "", "a", "2")
	wantError(t, "a", api.ErrUnset, "a", "x", "a", "2")
	wantValue(t, "a", 7, "b", "x", "a", "7", "a", "x")
	wantValue(t, "a + b", 3, "b", "1", "a", "2", "b", "5", "a", "5")
	want(t, "a += 1", vars("a", "1", "a", "5"), 2, vars("a", "2"), api.OK)
}

// TestNameValues reads names with values of all forms.
func TestNameValues(t *testing.T) {
	for value, number := range map[string]int64{
		"": 0, "0": 0, "-0": 0, "7": 7, "-7": -7, "010": 8, "-010": -8, "0x1F": 31, "-0x1f": -31, "0XAb": 171, "00": 0, "-00": 0,
		"9223372036854775807": greatest, "9223372036854775808": least, "-9223372036854775808": least, "-9223372036854775807": -greatest,
		"18446744073709551615": -1, "-18446744073709551615": 1, "18446744073709551616": 0, "0xffffffffffffffff": -1,
		"1" + strings.Repeat("0", 1000): 0, strings.Repeat("0", 1000000) + "12": 10, "-0x" + strings.Repeat("0", 2000) + "c": -12,
	} {
		wantValue(t, "a", number, "a", value)
		wantValue(t, "0+(a)", number, "a", value)
		want(t, "b = a", vars("a", value), number, decimals("b", number), api.OK)
		want(t, "a |= 0", vars("a", value), number, decimals("a", number), api.OK)
	}
	for _, value := range []string{
		"-", "--1", "+1", "-+1", "+", " ", " 1", "1 ", "- 1", "\n", "1\n", "\t1", "08", "-08", "09", "0x", "-0x", "0X", "0xg", "x1", "0x-1", "0x1 ",
		"a", "b", "c", "1+1", "(1)", "1a", "1_", "_1", "1.0", "1e3", "~1", "!1", "0b1", "\x00", "1\x00", "\xff", "1-", "1-1", "00x1", "12\u0663", "'1'",
	} {
		wantError(t, "a", api.ErrUnset, "a", value, "b", "1", "c", "1")
		wantError(t, "1 + -(a)", api.ErrUnset, "a", value)
		wantError(t, "b = a", api.ErrUnset, "a", value)
		wantError(t, "a += 1", api.ErrUnset, "a", value)
		wantError(t, "(b = 1) + (a &= 0)", api.ErrUnset, "a", value)
	}
}

// decimals makes a list of one variable with a number.
func decimals(name string, n int64) []api.Var {
	return vars(name, decimal(n))
}

// decimal writes a number by its digits from the last one.
func decimal(n int64) string {
	if n == least {
		return "-9223372036854775808"
	}
	if n < 0 {
		return "-" + decimal(-n)
	}
	if n < 10 {
		return "0123456789"[n : n+1]
	}
	return decimal(n/10) + decimal(n%10)
}

func TestPrefixes(t *testing.T) {
	wantRows(t, []row{
		{"+5", 5}, {"-5", -5}, {"~5", -6}, {"!5", 0}, {"+0", 0}, {"-0", 0}, {"~0", -1}, {"!0", 1}, {"!-1", 0},
		{"- 5", -5}, {"--5", 5}, {"- -5", 5}, {"---5", -5}, {"++5", 5}, {"+-5", -5}, {"-+5", -5},
		{"!!5", 1}, {"!!0", 0}, {"!!!5", 0}, {"~~5", 5}, {"-~5", 6}, {"~-5", 4}, {"!~5", 0}, {"!~-1", 1}, {"~!5", -1}, {"-!0", -1}, {"!-0", 1},
		{"-a", -9}, {"+a", 9}, {"~a", -10}, {"!a", 0}, {"!b", 1}, {"-b", 0}, {"-(2+3)", -5}, {"!(1-1)", 1}, {"~(1)", -2}, {"+(-2)", -2},
		{"1-+2", -1}, {"1--2", 3}, {"1+-2", -1}, {"1++2", 3}, {"a+++b", 9}, {"a---b", 9}, {"a-- -1", 8}, {"1*-2", -2}, {"7/-2", -3}, {"1<-2", 0}, {"1<<-63", 2},
		{"1&~0", 1}, {"1==!0", 1}, {"1!=!0", 0}, {"1&&!0", 1}, {"0||!0", 1}, {"1|!0", 1}, {"2^~0", -3}, {"1?-2:+3", -2}, {"0?-2:~3", -4},
		{"-2*-3", 6}, {"-2-3", -5}, {"!0+1", 2}, {"~1+1", -1}, {"-1>>1", -1}, {"!1==0", 1}, {"-9223372036854775807-1", least},
	}, "a", "9")
	wantForms(t, "+", "-", "~", "!", "1+", "1-", "1~", "1!", "a++", "a--", "1~2", "1!2", "a!", "-)", "(-)", "!=1", "~=1", "!&1", "-*1", "+/1")
}

func TestParentheses(t *testing.T) {
	wantRows(t, []row{
		{"(1)", 1}, {"((1))", 1}, {"( 1 )", 1}, {"(1+2)*3", 9}, {"3*(1+2)", 9}, {"(1)+(2)", 3}, {"2*(3+(4-1))", 12}, {"(1?2:3)", 2}, {"(a)", 5},
		{"((1)+(2))*((3)+(4))", 21}, {"10-(5-(3-1))", 7}, {"(1)?(2):(3)", 2},
	}, "a", "5")
	wantForms(t, "(", ")", "()", "( )", ")(", "(1", "1)", "((1)", "(1))", "1(2)", "(1)2", "(1)(2)", "a(1)", "(1)a", "1+()", "()+1", "(1+)", "(+)", "-(", "1+(", "[1]", "{1}", "(1]")
}

// TestBinary asks for each operator with each two of some numbers.
func TestBinary(t *testing.T) {
	numbers := []int64{0, 1, -1, 2, 3, -3, 7, -7, 62, 63, 64, 65, -63, -64, 1 << 32, greatest, least, greatest - 1, least + 1}
	for _, a := range numbers {
		for _, b := range numbers {
			l := []string{"a", decimal(a), "b", decimal(b)}
			for sign, value := range map[string]int64{
				"+": a + b, "-": a - b, "*": a * b, "&": a & b, "|": a | b, "^": a ^ b,
				"==": one(a == b), "!=": one(a != b), "<": one(a < b), "<=": one(a <= b), ">": one(a > b), ">=": one(a >= b),
				"&&": one(a != 0 && b != 0), "||": one(a != 0 || b != 0), "<<": shifted(a, b, false), ">>": shifted(a, b, true),
			} {
				wantValue(t, "a"+sign+"b", value, l...)
				wantValue(t, "a\n"+sign+" b", value, l...)
				wantValue(t, "("+decimal(a)+")"+sign+"("+decimal(b)+")", value)
			}
			wantDivided(t, a, b)
		}
	}
}

func one(is bool) int64 {
	if is {
		return 1
	}
	return 0
}

// shifted moves the bits one by one, as often as the lowest six bits of b say.
func shifted(a, b int64, right bool) int64 {
	for b = ((b % 64) + 64) % 64; b > 0; b-- {
		switch {
		case !right:
			a += a
		case a < 0 && a%2 != 0:
			a = a/2 - 1 // rounded down, not towards 0
		default:
			a /= 2
		}
	}
	return a
}

// wantDivided works a quotient and its remainder out by subtraction of sizes.
func wantDivided(t *testing.T, a, b int64) {
	t.Helper()
	l := []string{"a", decimal(a), "b", decimal(b)}
	if b == 0 {
		wantError(t, "a / b", api.ErrZero, l...)
		wantError(t, "a % b", api.ErrZero, l...)
		return
	}
	rest, by, quotient := size(a), size(b), uint64(0)
	for i := 63; i >= 0; i-- {
		if rest>>i >= by {
			rest -= by << i
			quotient += 1 << i
		}
	}
	q, r := int64(quotient), int64(rest)
	if (a < 0) != (b < 0) {
		q = -q
	}
	if a < 0 {
		r = -r
	}
	wantValue(t, "a / b", q, l...)
	wantValue(t, "a % b", r, l...)
	wantValue(t, "a / b * b + a % b", a, l...)
}

func size(n int64) uint64 {
	if n < 0 {
		return -uint64(n)
	}
	return uint64(n)
}

func TestDivision(t *testing.T) {
	wantRows(t, []row{
		{"7/2", 3}, {"-7/2", -3}, {"7/-2", -3}, {"-7/-2", 3}, {"7%2", 1}, {"-7%2", -1}, {"7%-2", 1}, {"-7%-2", -1},
		{"6/3", 2}, {"6%3", 0}, {"-6/3", -2}, {"-6%3", 0}, {"1/2", 0}, {"-1/2", 0}, {"1%2", 1}, {"-1%2", -1}, {"0/5", 0}, {"0%5", 0},
		{"-9223372036854775808/-1", least}, {"-9223372036854775808%-1", 0}, {"-9223372036854775808/1", least},
		{"9223372036854775807/-1", -greatest}, {"-9223372036854775808/2", -4611686018427387904}, {"0x8000000000000000/-1", least},
	})
	want(t, "a /= -1", vars("a", "-9223372036854775808"), least, decimals("a", least), api.OK)
	want(t, "a %= -1", vars("a", "-9223372036854775808"), 0, decimals("a", 0), api.OK)
}

func TestWrap(t *testing.T) {
	wantRows(t, []row{
		{"9223372036854775807+1", least}, {"-9223372036854775807-2", greatest}, {"9223372036854775807*2", -2}, {"-9223372036854775808*-1", least},
		{"-(-9223372036854775808)", least}, {"4294967296*4294967296", 0}, {"3037000500*3037000500", -9223372036709301616},
		{"1<<63", least}, {"1<<62", 1 << 62}, {"3<<63", least}, {"1<<64", 1}, {"1<<65", 2}, {"1<<-1", least}, {"1<<-64", 1}, {"2<<63", 0},
		{"-1>>63", -1}, {"-8>>1", -4}, {"-7>>1", -4}, {"8>>64", 8}, {"8>>65", 4}, {"8>>-63", 4}, {"-9223372036854775808>>63", -1}, {"9223372036854775807>>62", 1}, {"1<<4294967296", 1},
	})
}

func TestTruth(t *testing.T) {
	wantRows(t, []row{
		{"5&&7", 1}, {"5&&0", 0}, {"0&&7", 0}, {"0&&0", 0}, {"5||7", 1}, {"5||0", 1}, {"0||7", 1}, {"0||0", 0}, {"-1&&-1", 1}, {"-1||0", 1}, {"0||-1", 1},
		{"1&&4294967296", 1}, {"0||4294967296", 1}, {"4294967296&&1", 1}, {"!4294967296", 0}, {"4294967296?1:2", 1},
		{"5<7", 1}, {"7<5", 0}, {"5<5", 0}, {"5<=5", 1}, {"5>=5", 1}, {"5>5", 0}, {"5==5", 1}, {"5!=5", 0}, {"(5==5)+(5<7)", 2},
		{"-1<0", 1}, {"0xffffffffffffffff<0", 1}, {"5?7:9", 7}, {"0?7:9", 9}, {"-1?7:9", 7}, {"1?0:9", 0},
	})
}
