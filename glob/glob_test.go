package glob

import (
	"strings"
	"testing"
)

// wantMatch holds Match against what it has to answer without dot, and with it.
func wantMatch(t *testing.T, p, s string, want, withDot bool) {
	t.Helper()
	if got := Match(p, s, false); got != want {
		t.Errorf("Match(%q, %q) = %v", p, s, got)
	}
	if got := Match(p, s, true); got != withDot {
		t.Errorf("Match(%q, %q, dot) = %v", p, s, got)
	}
}

// sides are a pattern, strings that it matches, and strings that it does not match.
type sides struct {
	p       string
	in, out []string
}

// checkSides matches strings none of which begins with a dot: with dot and without it alike.
func checkSides(t *testing.T, rows []sides) {
	t.Helper()
	for _, x := range rows {
		for _, s := range x.in {
			wantMatch(t, x.p, s, true, true)
		}
		for _, s := range x.out {
			wantMatch(t, x.p, s, false, false)
		}
	}
}

// one is the string of one byte.
func one(b int) string { return string([]byte{byte(b)}) }

// list makes a list of strings as short as they are written.
func list(l ...string) []string { return l }

func TestMatchExamples(t *testing.T) {
	wantMatch(t, "a*.c", "ab.c", true, true)
	wantMatch(t, "[!a-c]x", "dx", true, true)
	wantMatch(t, "[]]", "]", true, true)
	wantMatch(t, `\*`, "*", true, true)
	wantMatch(t, "*", ".x", true, false)
	wantMatch(t, "[ab", "[ab", true, true)
}

func TestMatchBytes(t *testing.T) {
	checkSides(t, []sides{
		{"", list(""), list("a", "*", "\x00", " ")},
		{"a", list("a"), list("", "b", "A", "aa", "ab", "ba")},
		{"ab", list("ab"), list("", "a", "b", "ba", "abc", "cab", "aab")},
		{"]", list("]"), list("", "[]", "[")},
		{"!", list("!"), list("", "a")},
		{"-", list("-"), list("", "a")},
		{"a-c", list("a-c"), list("b", "abc", "a")},
		{"!a]", list("!a]"), list("b", "a")},
		{"a/b", list("a/b"), list("ab", "a//b")},
		{"a\nb", list("a\nb"), list("ab", "a")},
		{"\x00", list("\x00"), list("", "\x00\x00")},
		{"\xff\xfe", list("\xff\xfe"), list("\xff", "\xfe\xff")},
		{"\u00e9", list("\u00e9", "\xc3\xa9"), list("e", "\xc3", "\xe9")},
	})
}

func TestMatchQuoted(t *testing.T) {
	checkSides(t, []sides{
		{`\a`, list("a"), list("", `\a`, `\`, "b")},
		{`\?`, list("?"), list("", `\?`, "a", `\a`)},
		{`\*`, list("*"), list("", `\*`, "a", `\`, `\a`)},
		{`\\`, list(`\`), list("", `\\`)},
		{`\\*`, list(`\`, `\a`, `\*`), list("", "*", "a")},
		{`\\\*`, list(`\*`), list(`\`, `\a`, `\\*`, "*")},
		{`\`, list(`\`), list("", `\\`, "a")}, // one at the end
		{`a\`, list(`a\`), list("a", `a\\`)},
		{`\\\`, list(`\\`), list(`\`, `\\\`)},
		{`*\`, list(`\`, `a\`, `*\`), list("", "a", "*")},
		{`?\`, list(`a\`, `\\`), list(`\`, "a", "?")},
		{`\[a]`, list("[a]"), list("a", `\a`, `\[a]`)},
		{`[a\]`, list("[a]"), list("a", "]", `\`, `[a\]`)},
		{`\]`, list("]"), list(`\]`, "")},
		{`\!\-`, list("!-"), list(`\!\-`, "!")},
		{"\\\n\\\x00", list("\n\x00"), list("", "\n")},
	})
}

func TestMatchStar(t *testing.T) {
	checkSides(t, []sides{
		{"*", list("", "a", "ab", "a/b", "*", "\n", "\x00\xff", "a.b"), nil},
		{"**", list("", "a", "ab", "a/b"), nil},
		{"a*", list("a", "ab", "aa", "a/b", "a*", "a."), list("", "b", "ba", "*")},
		{"*a", list("a", "ba", "aa", "b/a", "aba"), list("", "b", "ab", "aab")},
		{"a*b", list("ab", "aab", "abb", "a.b", "a*b", "abab"), list("", "a", "b", "ba", "aba", "bab")},
		{"a*a", list("aa", "aaa", "aba", "abba"), list("", "a", "ab", "ba", "aab")},
		{"ab*bc", list("abbc", "abxbc", "abbbc"), list("abc", "ab", "bc", "abbcx")},
		{"*a*", list("a", "ba", "ab", "bab", "aaa"), list("", "b", "bb")},
		{"*ab*", list("ab", "aab", "abb", "xabx", "acab"), list("", "a", "b", "ba", "acb")},
		{"a*b*c", list("abc", "axbxc", "abbc", "abcbc", "abcc", "acbc"), list("ac", "ab", "abcd", "acb", "bac", "bc")},
		{"*ab*ba*", list("abba", "abxba", "xabbax", "ababba"), list("aba", "ab", "ba", "baab", "")},
		{"*aab", list("aab", "aaab", "aaaab", "aabaab"), list("ab", "aabb", "aaba", "")},
		{"*a?b", list("axb", "aab", "aaab", "aabb", "axbayb"), list("ab", "axbb", "")},
		{"*[ab]c", list("ac", "bc", "abc", "xbc", "acbc"), list("c", "cc", "ab", "")},
		{"*a*b*a*", list("aba", "xaxbxax", "aabba"), list("ab", "aab", "bab", "bba", "")},
		{"a**b", list("ab", "axb", "aab"), list("a", "b", "ba")},
		{"*?", list("a", "ab", "abc"), list("")},
		{"?*", list("a", "ab", "abc"), list("")},
		{"?*?", list("ab", "abc", "abcd"), list("", "a")},
		{"*??*", list("ab", "abc", "abcd"), list("", "a")},
		{"*.*", list("a.", "a.b", "a.b.c"), list("", "a")},
	})
}

func TestMatchAny(t *testing.T) {
	checkSides(t, []sides{
		{"?", list("a", "?", "*", "/", "\n", "\x00", "\xff"), list("", "ab", "\u00e9")},
		{"??", list("ab", "\u00e9", "??"), list("", "a", "abc")},
		{"a?", list("ab", "aa", "a?"), list("", "a", "ba", "abc")},
		{"?a", list("ba", "aa"), list("", "a", "ab", "baa")},
		{"a?c", list("abc", "a?c", "a/c"), list("ac", "abbc", "abd")},
	})
}

func TestMatchSet(t *testing.T) {
	checkSides(t, []sides{
		{"[a]", list("a"), list("", "b", "[", "]", "[a]", "aa")},
		{"[ab]", list("a", "b"), list("", "c", "ab", "[ab]")},
		{"[aa]", list("a"), list("", "b", "aa")},
		{"x[ab]y", list("xay", "xby"), list("xy", "xaby", "xcy", "x[ab]y")},
		{"[ab][cd]", list("ac", "ad", "bc", "bd"), list("ab", "cd", "a", "ca")},
		{"[*]", list("*"), list("", "a", "**")},
		{"[?]", list("?"), list("", "a")},
		{"[[]", list("["), list("", "]", "a", "[[]")},
		{"[a[]", list("a", "["), list("", "]")},
		{"[[a]]", list("[]", "a]"), list("a", "[", "[a]", "]")}, // the first ] ends it
		{"[/]", list("/"), list("", "a")},
		{"[.]", nil, list("", "a")},
		{"[\n\x00\xff]", list("\n", "\x00", "\xff"), list("", "a", "\xfe")},
		{"[\u00e9]", list("\xc3", "\xa9"), list("\u00e9", "e")},
		{"[^a]", list("^", "a"), list("", "b")}, // the ! alone turns a set round
		{"[[:alpha:]]", list("a]", ":]", "[]"), list("a", "b]", "]")},
		{"[ab]c]", list("ac]", "bc]"), list("a", "c", "]", "c]")},
	})
}

func TestMatchSetClose(t *testing.T) {
	checkSides(t, []sides{
		{"[]]", list("]"), list("", "[", "[]]", "]]")},
		{"[]a]", list("]", "a"), list("", "[", "a]", "[]a]")},
		{"[]]]", list("]]"), list("]", "]]]")},
		{"[a]]", list("a]"), list("a", "]", "]]")},
		{"[!]]", list("a", "[", "!"), list("", "]", "[!]]")},
		{"[!]a]", list("b", "!", "["), list("", "]", "a", "a]")},
		{"[]!]", list("]", "!"), list("", "a")},
		{`[\]]`, list("]"), list("", `\`, "[", "]]", `\]`)},
		{`[\]a]`, list("]", "a"), list("", `\`, "a]")},
		{`[a\]b]`, list("a", "]", "b"), list("", `\`, "ab]", "b]")},
		{`[!\]]`, list("a", `\`), list("", "]", "]]")},
		{`[]\]]`, list("]"), list("", `\`, "]]")},
		{`[\\]`, list(`\`), list("", "]", `\\`, "[")},
		{`[\\]]`, list(`\]`), list("]", `\`, "]]")}, // the quoted \ quotes nothing
		{`[\a]`, list("a"), list("", `\`, "[a]")},
		{`[a\`, list(`[a\`), list("a", `\`, "[a")},
	})
}

func TestMatchNoSet(t *testing.T) {
	checkSides(t, []sides{
		{"[", list("["), list("", "a", "[[")},
		{"[a", list("[a"), list("", "a", "[")},
		{"a[", list("a["), list("a", "[")},
		{"[]", list("[]"), list("", "[", "]", "a")},
		{"[]a", list("[]a"), list("]", "a", "[a")},
		{"[!", list("[!"), list("", "a", "[", "!")},
		{"[!]", list("[!]"), list("", "a", "!", "]", "[]")},
		{"[!a", list("[!a"), list("b", "[a")},
		{"[!]a", list("[!]a"), list("a", "ba")},
		{`[\]`, list("[]"), list("", "]", `\`, `[\]`)},
		{`[!\]`, list("[!]"), list("", "a", "]", `[!\]`)},
		{`[]\]`, list("[]]"), list("", "]", `[]\]`)},
		{"[*", list("[", "[a", "[ab"), list("", "a", "a[")},
		{"[?", list("[a", "[["), list("", "[", "a", "[ab")},
		{"[a*", list("[a", "[ab"), list("a", "ab", "[")},
		{"[[a", list("[[a"), list("[a", "a")},
		{"[]*", list("[]", "[]a"), list("]", "[")},
		{"[a-", list("[a-"), list("a", "b", "-")},
		{"][", list("]["), list("[]", "]")},
		{"a][b", list("a][b"), list("ab", "a]b")},
		{"[a][", list("a["), list("a", "[a][")}, // a set, and a [ behind it
		{"[a][]", list("a[]"), list("a", "a]")},
		{"*[", list("[", "a["), list("", "a", "[a")},
	})
}

func TestMatchRange(t *testing.T) {
	checkSides(t, []sides{
		{"[a-c]", list("a", "b", "c"), list("", "`", "d", "-", "A", "ab")},
		{"[a-a]", list("a"), list("", "b", "-")},
		{"[c-a]", nil, list("", "a", "b", "c", "-", "[c-a]")}, // a set, of none
		{"[c-ax]", list("x"), list("a", "b", "c", "-")},
		{"[a-cx-z]", list("a", "b", "c", "x", "y", "z"), list("d", "w", "-")},
		{"[xa-c]", list("x", "a", "b", "c"), list("-", "d", "y")},
		{"[a-]", list("a", "-"), list("", "b", "]")},
		{"[-a]", list("-", "a"), list("", "b", ".x")},
		{"[-]", list("-"), list("", "a")},
		{"[--]", list("-"), list("", "a", "--")},
		{"[---]", list("-"), list("", "a", ",")},
		{"[--0]", list("-", "/", "0"), list("", "1", ",")},
		{"[+--]", list("+", ",", "-"), list("", "*", "/")},
		{"[a--]", nil, list("a", "-", "b")},
		{"[a-c-e]", list("a", "b", "c", "-", "e"), list("d", "f")},
		{"[a-c-]", list("a", "b", "c", "-"), list("d", ",")},
		{"[a-b-c-d]", list("a", "b", "-", "c", "d"), list("e", ",", "/", "0", "]")},
		{"[a-b--d]", list("a", "b", "-", "/", "0", "]", "d"), list("e", ",")},
		{"[]-a]", list("]", "^", "`", "a"), list("", "[", "b", "-")},
		{"[a-]]", list("a]", "-]"), list("a", "]", "b]", "-")},
		{`[A-\]]`, list("A", "Z", "[", `\`, "]"), list("", "^", "@", "-")},
		{"[!a-c]", list("d", "-", "A", "!", "]"), list("", "a", "b", "c", "de")},
		{"[!c-a]", list("a", "b", "c", "-", "\x00", "\xff"), list("", "ab")},
		{"[0-9a-f][0-9a-f]", list("00", "7f", "ff"), list("0", "g0", "0g", "000")},
		{"[\x00-\xff]", list("\x00", "a", "]", "\xff"), list("", "ab")},
		{"[\xfe-\xff]", list("\xfe", "\xff"), list("\x00", "\xfd", "")},
	})
}

func TestMatchRangeQuoted(t *testing.T) {
	checkSides(t, []sides{
		{`[\a-c]`, list("a", "b", "c"), list("d", "-", `\`)},
		{`[a-\c]`, list("a", "b", "c"), list("d", "-", `\`)},
		{`[\a-\c]`, list("a", "b", "c"), list("d", "-", `\`)},
		{`[a\-c]`, list("a", "-", "c"), list("b", `\`)}, // a quoted - makes no range
		{`[a\-]`, list("a", "-"), list("b", `\`)},
		{`[\-a]`, list("-", "a"), list("b", `\`)},
		{`[\--0]`, list("-", "/", "0"), list("1", ",", `\`)},
		{`[+-\-]`, list("+", ",", "-"), list("*", "/", `\`)},
		{`[a\--z]`, list("a", "-", "A", "z"), list("{", ",")},
		{`[\\-\]]`, list(`\`, "]"), list("[", "^", "-")},
		{`[[-\]]`, list("[", `\`, "]"), list("Z", "^", "-")},
		{`[\]-a]`, list("]", "^", "a"), list(`\`, "b", "-")},
	})
}

func TestMatchNot(t *testing.T) {
	checkSides(t, []sides{
		{"[!a]", list("b", "!", "[", "]", "\x00", "\xff", "\n"), list("", "a", "bc", "[!a]")},
		{"[!ab]", list("c", "!"), list("", "a", "b")},
		{"[!!]", list("a", "["), list("", "!")},
		{"[!!a]", list("b", "-"), list("", "!", "a")},
		{"[a!]", list("a", "!"), list("", "b")},
		{`[\!a]`, list("!", "a"), list("", "b", `\`)}, // a quoted ! is a member
		{`[\!]`, list("!"), list("", "a", `\`)},
		{`[!\!]`, list("a", `\`), list("", "!")},
		{"[!-a]", list("b", "!", ","), list("", "-", "a")},
		{"[!!-a]", list("b", " "), list("", "!", "-", "A", "a")},
		{"[!a-]", list("b", "!"), list("", "a", "-")},
		{"[!--0]", list("1", ","), list("", "-", "/", "0")},
		{"[!*]", list("a"), list("", "*")},
		{"![a]", list("!a"), list("a", "b", "!")},
		{"x[!a]*", list("xb", "xbc", "xba"), list("x", "xa", "xab")},
	})
}

// TestMatchDot asks for strings that begin with a dot, and for some in which it comes later.
func TestMatchDot(t *testing.T) {
	for _, x := range []struct {
		p, s          string
		want, withDot bool
	}{
		{"*", ".", true, false},
		{"*", "..", true, false},
		{"*", ".x", true, false},
		{"*", "x.", true, true},
		{"*", "", true, true},
		{"**", ".x", true, false},
		{"?", ".", true, false},
		{"?x", ".x", true, false},
		{"*x", ".x", true, false},
		{"*.x", ".x", true, false}, // the * matches nothing, and comes first all the same
		{"*.*", ".x", true, false},
		{"[.]", ".", true, false},
		{"[.]x", ".x", true, false},
		{`[\.]x`, ".x", true, false},
		{"[!a]x", ".x", true, false},
		{"[--/]x", ".x", true, false},
		{".*", ".x", true, true},
		{".*", ".", true, true},
		{".*", "..", true, true},
		{".x", ".x", true, true},
		{`\.*`, ".x", true, true},
		{`\.x`, ".x", true, true},
		{`\.?`, "..", true, true},
		{".?", "..", true, true},
		{".[.]", "..", true, true},
		{"..", "..", true, true},
		{"x*", "x.y", true, true},
		{"x?y", "x.y", true, true},
		{"x[.]y", "x.y", true, true},
		{"*/*", "a/.b", true, true}, // a slash is a byte as any other
		{"*", "/.b", true, true},
		{"*", "a\n.b", true, true},
		{".", "x", false, false},
		{".*", "x", false, false},
		{".y", ".x", false, false},
		{`\.y`, ".x", false, false},
		{`\\.*`, ".x", false, false},
		{`\`, ".", false, false},
		{"x", ".", false, false},
		{"", ".", false, false},
		{`\.`, `\.`, false, false},
		{`\\.`, `\.`, true, true},
	} {
		wantMatch(t, x.p, x.s, x.want, x.withDot)
	}
}

// TestMatchEachByte holds each byte, written in each way, against each byte.
func TestMatchEachByte(t *testing.T) {
	for b := range 256 {
		c := one(b)
		for other := range 256 {
			s, same := one(other), b == other
			if c != "*" && c != "?" && Match(c, s, false) != same {
				t.Errorf("Match(%q, %q) = %v", c, s, !same)
			}
			for _, p := range []string{`\` + c, `[\` + c + "]", "[" + c + c + "]", `[\` + c + `-\` + c + "]"} {
				if p != `[\\]` && p != "[!!]" && p != "[]]]" && Match(p, s, false) != same {
					t.Errorf("Match(%q, %q) = %v", p, s, !same)
				}
			}
			for _, p := range []string{`[!\` + c + "]", "[!" + c + `\` + c + "]"} {
				if p != `[!\\\]` && Match(p, s, false) == same {
					t.Errorf("Match(%q, %q) = %v", p, s, same)
				}
			}
			if !Match("?", s, false) || !Match("*", s, false) {
				t.Errorf("%q is not matched", s)
			}
		}
	}
}

// TestMatchEachRange holds each range against the bytes around its ends.
func TestMatchEachRange(t *testing.T) {
	for first := range 256 {
		for last := range 256 {
			r := `\` + one(first) + `-\` + one(last)
			for _, b := range []int{0, first - 1, first, first + 1, (first + last) / 2, last - 1, last, last + 1, 255} {
				if b < 0 || b > 255 {
					continue
				}
				in := first <= b && b <= last
				if Match("["+r+"]", one(b), false) != in || Match("[!"+r+"]", one(b), false) == in {
					t.Fatalf("the range %q and %q", r, one(b))
				}
			}
		}
	}
}

// TestMatchLong matches long texts, and such as would never end if each way to share them out were tried.
func TestMatchLong(t *testing.T) {
	const size = 1 << 20
	a, open := strings.Repeat("a", size), strings.Repeat("[", size)
	for _, x := range []struct {
		p, s string
		want bool
	}{
		{a, a, true},
		{a, a[1:], false},
		{a[1:], a, false},
		{"*", a, true},
		{"a*", a, true},
		{"*b", a, false},
		{"*b*", a, false},
		{"*" + a, a, true},
		{"*" + a + "a", a, false},
		{a + "*", a, true},
		{strings.Repeat("?", size), a, true},
		{strings.Repeat("*", size), a, true},
		{strings.Repeat("a*", size), a, true},
		{strings.Repeat("*a", size), a, true},
		{strings.Repeat("*a", size) + "*a", a, false},
		{strings.Repeat("*a", 2000) + "b", a, false},
		{strings.Repeat("a*", 2000) + "b*", a, false},
		{strings.Repeat("*?", 2000) + "[b]", a, false},
		{strings.Repeat("[ab]", size), a, true},
		{strings.Repeat(`\a`, size), a, true},
		{"[" + strings.Repeat("b", size) + "a]", "a", true},
		{"[!" + strings.Repeat("b", size) + "a]", "a", false},
		{open, open, true},
		{open, open[1:], false},
		{open + "]", "[", true},
		{strings.Repeat(`[\]`, size/2), strings.Repeat("[]", size/2), true},
		{strings.Repeat("[!", size/2), strings.Repeat("[!", size/2), true},
	} {
		if Match(x.p, x.s, false) != x.want {
			t.Errorf("a pattern of %d bytes and %d bytes: %v", len(x.p), len(x.s), !x.want)
		}
	}
	if Has(open) || !Has(open+"]") || Plain(open) != open || Quote(open) != strings.Repeat(`\[`, size) {
		t.Error("many brackets")
	}
}

func TestHas(t *testing.T) {
	for _, p := range []string{
		"*", "?", "[a]", "a*", "*a", "a?b", "a[b]", "[a]b", "**", "[*]", "[?]", "[]]", "[!a]", "[!]]", "[z-a]", "[-]", "[!!]", "[[]", "[[a]",
		"[*", "[?", "[]*", "[!]?", `[\]*`, `\\*`, `\\?`, `\\[a]`, `\*?`, `[\]]`, `[\a]`, `[\\]`, "a[][b]", "[][]", `\[[a]`, `*\`, "[a]\\", `[!\]]`, "\xff*", "]*",
	} {
		if !Has(p) {
			t.Errorf("Has(%q) = false", p)
		}
	}
	for _, p := range []string{
		"", "a", "[", "]", "!", "-", `\`, "[a", "a]", "[]", "[!]", "[!", "[!a", "][", "a][b", "a-c", "!a", "^", ".", "..", "/", "a b",
		`\*`, `\?`, `\[a]`, `\[`, `[\]`, `[!\]`, `[]\]`, `[a\]`, `\\`, `\\\*`, `\\\?`, `\\\[a]`, `a\`, `\*\`, `[a\`, `[\a`, "[[", "[[[a", "\n", "\x00\xff", "~$()",
	} {
		if Has(p) {
			t.Errorf("Has(%q) = true", p)
		}
	}
}

func TestHasEachByte(t *testing.T) {
	for b := range 256 {
		c := one(b)
		special := c == "*" || c == "?"
		for _, p := range []string{c, "a" + c, c + "a", c + c, `\\` + c} {
			if Has(p) != special {
				t.Errorf("Has(%q) = %v", p, !special)
			}
		}
		for _, p := range []string{`\` + c, `a\` + c, `\` + c + "a", `\` + c + `\`} {
			if Has(p) {
				t.Errorf("Has(%q) = true", p)
			}
		}
	}
}

func TestPlain(t *testing.T) {
	for _, x := range [][2]string{
		{"", ""},
		{"a", "a"},
		{`\a`, "a"},
		{`a\*`, "a*"},
		{`\*\?`, "*?"},
		{`\\`, `\`},
		{`\\a`, `\a`},
		{`\\\a`, `\a`},
		{`\\\\`, `\\`},
		{`\`, `\`},
		{`a\`, `a\`},
		{`\a\`, `a\`},
		{`\\\`, `\\`},
		{`\\\\\`, `\\\`},
		{"*?[a]", "*?[a]"},
		{`[\a]`, "[a]"}, // those within sets quote, too
		{`[\]]`, "[]]"},
		{`[a\-c]`, "[a-c]"},
		{`[\!a]`, "[!a]"},
		{`[\\]`, `[\]`},
		{`[\]`, "[]"},
		{`*\*`, "**"},
		{"\\\n", "\n"},
		{"\\\x00\\\xff", "\x00\xff"},
		{"a b/c", "a b/c"},
		{"\u00e9", "\u00e9"},
		{"\\\u00e9", "\u00e9"},
	} {
		if got := Plain(x[0]); got != x[1] {
			t.Errorf("Plain(%q) = %q, not %q", x[0], got, x[1])
		}
	}
	for b := range 256 {
		if c := one(b); Plain(`\`+c) != c || Plain("a"+c) != "a"+c {
			t.Errorf("Plain with %q: %q, %q", c, Plain(`\`+c), Plain("a"+c))
		}
	}
}

func TestQuote(t *testing.T) {
	for _, x := range [][2]string{
		{"", ""},
		{"a*", `a\*`},
		{"abc", "abc"},
		{"*?[]!-\\", `\*\?\[\]\!\-\\`},
		{"[a-c]", `\[a\-c\]`},
		{"[!x]", `\[\!x\]`},
		{`\*`, `\\\*`},
		{`\\`, `\\\\`},
		{"**", `\*\*`},
		{".x", ".x"},
		{"a b\n/~$'\"^{}(),;&|<>#%=+:@_`", "a b\n/~$'\"^{}(),;&|<>#%=+:@_`"},
		{"\x00\x7f\x80\xff", "\x00\x7f\x80\xff"},
		{"\u00e9*", "\u00e9\\*"},
	} {
		if got := Quote(x[0]); got != x[1] {
			t.Errorf("Quote(%q) = %q, not %q", x[0], got, x[1])
		}
	}
	for b := range 256 {
		c := one(b)
		want := c
		if strings.Contains("*?[]!-\\", c) {
			want = `\` + c
		}
		if got := Quote("a" + c + c + "z"); got != "a"+want+want+"z" {
			t.Errorf("Quote of two %q: %q", c, got)
		}
	}
}

// TestQuoteInSet writes quoted bytes between brackets: each stands for itself, wherever it stands.
func TestQuoteInSet(t *testing.T) {
	for first := range 256 {
		for _, then := range []string{"", "a", "!", "-", "]", "[", `\`, "-z", "-]", "\xff"} {
			l := one(first) + then
			for b := range 256 {
				in := strings.Contains(l, one(b))
				if Match("["+Quote(l)+"]", one(b), false) != in || Match("[!"+Quote(l)+"]", one(b), false) == in {
					t.Fatalf("the set of %q and %q", l, one(b))
				}
			}
		}
	}
}

// TestPartsStop leaves the enumeration early and begins it again.
func TestPartsStop(t *testing.T) {
	all := parts("*a[b]?")
	for range 2 {
		for x := range all {
			if !x.many {
				t.Errorf("the first part is %v", x)
			}
			break
		}
	}
	n := 0
	for x := range all {
		if n++; x.special == (n == 2) {
			t.Errorf("part %d: %v", n, x)
		}
	}
	if n != 4 {
		t.Errorf("%d parts", n)
	}
}
