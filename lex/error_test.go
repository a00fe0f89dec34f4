package lex_test

import (
	"slices"
	"strings"
	"testing"

	"almoner/api"
	"almoner/lex"
)

// deepest is how many parts may be open, one within the other.
const deepest = 25

// nested lays parts into one another.
func nested(n int, left, inner, right string) string {
	return strings.Repeat(left, n) + inner + strings.Repeat(right, n)
}

// wantDeep asks that parts may be open around an inner one to the bound, and that one more may not. The inner one begins a part at an offset of its own.
func wantDeep(t *testing.T, left, inner, right string, offset int) {
	t.Helper()
	s := nested(deepest-1, left, inner, right)
	want(t, s, word(0, s))
	wantPart(t, s+"a", false, len(s))
	s = nested(deepest, left, inner, right)
	wantPart(t, s, false, -1)
	wantError(t, s, deepest*len(left)+offset, api.ErrForm)
	wantError(t, "a; b"+s+" c", deepest*len(left)+offset+4, api.ErrForm)
}

// TestDeep nests each kind of parts within those that may contain parts.
func TestDeep(t *testing.T) {
	for _, inner := range []string{`\a`, "''", "'a'", `""`, `"a"`, "$(())", "$((1))", "$()", "$(a)", "${}", "${a}", "``", "`a`"} {
		wantDeep(t, "$(", inner, ")", 0)
		wantDeep(t, "$(a ", "b"+inner+"c", ")", 1)
		wantDeep(t, "${", inner, "}", 0)
		wantDeep(t, "${a:-", " $"+inner, " }", 2)
		// Those that are one behind the other are not one within the other.
		s := nested(deepest-1, "$(", inner+inner+" "+inner, ")") + inner
		want(t, s, word(0, s))
	}
	for _, inner := range []string{`\a`, "$(())", "$(a)", "${a}", "`a`"} {
		s := `"` + nested(deepest-2, "${", inner, "}") + `"`
		want(t, s, word(0, s))
		wantError(t, `"`+nested(deepest-1, "${", inner, "}")+`"`, 1+2*(deepest-1), api.ErrForm)
	}
	s := nested(12, `"$(`, `"a"`, `)"`)
	want(t, s, word(0, s))
	wantError(t, nested(12, `"$(`, `"${a}"`, `)"`), 12*3+1, api.ErrForm)
}

// TestDeepAlone asks that only parts count, and only those that are open.
func TestDeepAlone(t *testing.T) {
	for _, inner := range []string{"$", "$a", "a", "(((((((())))))))", "{", "(a)", "#", "$$"} {
		s := nested(deepest, "$( ", inner, ")")
		want(t, s, word(0, s))
		wantPart(t, s, false, len(s))
		wantError(t, nested(deepest+1, "$( ", inner, ")"), 3*deepest, api.ErrForm)
	}
	// Within those that contain no parts nothing is nested.
	for _, inner := range []string{`'\a"$(${'`, "'" + nested(30, "$(", "", ")") + "'", "$((" + nested(30, "(", "1", ")") + "))", `$(('"\a${$()))`, "`\\`\"'$(${$((`", "`" + nested(30, "${", "", "}") + "`", "`\\\\\\``"} {
		wantDeep(t, "$(", inner, ")", 0)
	}
	// Parentheses are no parts.
	s := "$(a" + nested(1000, "(", "b", ")") + ")"
	want(t, s, word(0, s))
	s = "$(a" + nested(1000, "(", nested(deepest-1, "$(", "", ")"), ")") + ")"
	want(t, s, word(0, s))
	wantPart(t, "$(a("+nested(deepest, "$(", "", ")")+"))", false, -1)
	// What has ended counts no more.
	s = "\"" + strings.Repeat("${a}`b`$(c)\\d$((1))", 100) + "\""
	want(t, s, word(0, s))
	s = strings.Repeat(nested(deepest, "$(", "", ")"), 20)
	want(t, s, word(0, s))
	s = "$(" + strings.Repeat(nested(deepest-1, "${", "", "}"), 20) + ")"
	want(t, s, word(0, s))
}

// TestDeepQuoted asks in a way that regards s as within a `"`: those that are open within s count.
func TestDeepQuoted(t *testing.T) {
	for _, x := range []struct{ left, inner, right string }{{"${", "`a`", "}"}, {"${'", `\"`, "}"}, {"$(", "'a'", ")"}, {`${"`, "$((1))", "}"}} {
		s := nested(deepest-1, x.left, x.inner, x.right)
		wantPart(t, s, true, len(s))
		wantPart(t, nested(deepest, x.left, x.inner, x.right), true, -1)
	}
	// Quotes there begin none, which could be nested too deeply.
	s := nested(deepest, "${", `'"`, "}")
	wantPart(t, s, true, len(s))
	wantPart(t, s, false, -1)
	wantError(t, s, 2*deepest, api.ErrForm)
}

// TestDeepOffset asks where the first part is that is too deep.
func TestDeepOffset(t *testing.T) {
	wantError(t, nested(deepest, "$(", "a'b'", ")"), 2*deepest+1, api.ErrForm)
	wantError(t, nested(deepest, "$(", "a", "'b')"), 2*deepest+1, api.ErrForm)
	wantError(t, "x 'y' "+nested(deepest, "$(", "a", "'b')"), 6+2*deepest+1, api.ErrForm)
	wantError(t, nested(deepest, "$(", "${a", "})"), 4*12+2, api.ErrForm)
	wantError(t, nested(deepest+5, "${", "", "}"), 2*deepest, api.ErrForm)
	wantError(t, nested(deepest, "$(", "", ")")+nested(deepest+3, "${", "", "}"), 5*deepest, api.ErrForm)
	wantError(t, nested(deepest+1, "${", "", "}")+" "+nested(deepest+3, "${", "", "}"), 2*deepest, api.ErrForm)
}

// TestDeepOrOpen asks which of two errors is met first.
func TestDeepOrOpen(t *testing.T) {
	for _, s := range []string{strings.Repeat("$(", deepest+1), strings.Repeat("$(", deepest) + "'", strings.Repeat("$(", deepest) + `\`, strings.Repeat("$(", deepest) + "`", strings.Repeat("$(", 1000)} {
		wantError(t, s, 2*deepest, api.ErrForm)
		wantPart(t, s, false, -1)
		wantPart(t, s, true, -1)
	}
	for _, s := range []string{strings.Repeat("$(", deepest), strings.Repeat("$(", deepest) + "$", strings.Repeat("$(", deepest) + "a (b) ", strings.Repeat("$(", deepest-1) + "'$($(", "`" + strings.Repeat("$(", 30), "$((" + strings.Repeat("$((", 30)} {
		wantError(t, s, len(s), api.ErrMore)
		wantPart(t, s, false, -1)
		wantPart(t, s, true, -1)
	}
	// An end behind what is too deep does not help, nor does what does not end behind it.
	wantError(t, nested(deepest+1, "$(", "", ")")+"'", 2*deepest, api.ErrForm)
	wantError(t, "'"+nested(deepest+1, "$(", "", ")"), 1+3*(deepest+1), api.ErrMore)
	wantError(t, "a;'b' 'c"+strings.Repeat("$(", deepest+1), 8+2*(deepest+1), api.ErrMore)
}

// manyTokens are as many tokens as n, of a kind each, and their script.
func manyTokens(n int, text, between string) (string, []api.Token) {
	s, l := "", []api.Token(nil)
	for range n {
		token := word(len(s), text)
		if strings.Contains("\n|&;<>()", text[:1]) {
			token = sign(len(s), text)
		}
		l = append(l, token)
		s += text + between
	}
	return s, l
}

func TestMany(t *testing.T) {
	for _, x := range []struct{ text, between string }{{"a", " "}, {"'b c'", "\t"}, {";", " "}, {"(", ""}, {"\n", ""}, {"\n", "#\\ \\\\"}, {">>", ""}, {"$(d)", " \\\n"}, {"<", "\\\n"}} {
		s, l := manyTokens(400, x.text, x.between)
		want(t, s, l...)
		if strings.HasPrefix(x.between, "#") {
			wantError(t, s+"a\n\n", len(s)+1, api.ErrMany)
			continue
		}
		want(t, s+" \t \\\n#b c", l...) // what is skipped is no token
		for _, one := range []string{"a", "1>", "\n", "&", ")", "''", `"$(`, "'", `\`, "`", "$((", "a'", nested(deepest+1, "${", "", "}")} {
			wantError(t, s+one, len(s), api.ErrMany)
			wantError(t, s+"\t \\\n "+one+" a", len(s)+5, api.ErrMany)
		}
	}
}

// TestManyOrder asks which error is met first.
func TestManyOrder(t *testing.T) {
	s, _ := manyTokens(400, "ab", " ")
	wantError(t, s+"c", 1200, api.ErrMany)
	wantError(t, s+" \t\\\n#d\ne", 1200+6, api.ErrMany) // the line feed behind the comment
	wantError(t, s+"'", 1200, api.ErrMany)
	wantError(t, s+nested(deepest+1, "$(", "", ")"), 1200, api.ErrMany)
	wantError(t, s+"c d 'e", 1200, api.ErrMany)
	wantError(t, s[3:]+"'c", 1199, api.ErrMore)
	wantError(t, s[3:]+"'c d e", 1203, api.ErrMore)
	wantError(t, s[3:]+nested(deepest+1, "$(", "", ")")+" a b", 1197+2*deepest, api.ErrForm)
	wantError(t, nested(deepest+1, "$(", "", ")")+s+s, 2*deepest, api.ErrForm)
	wantError(t, s+s, 1200, api.ErrMany)
	wantError(t, strings.Repeat("(", 399)+"2>'", 400, api.ErrMany)
	wantError(t, strings.Repeat(")", 400)+"2>", 400, api.ErrMany)
	wantError(t, strings.Repeat(";", 1000), 800, api.ErrMany)
	wantError(t, strings.Repeat("; ", 2048), 800, api.ErrMany)
	wantError(t, strings.Repeat("; ", 2048)+"'", 0, api.ErrLong)
	wantError(t, strings.Repeat("$(", 2049), 0, api.ErrLong)
}

// TestOwnership overwrites what came back, and asks again.
func TestOwnership(t *testing.T) {
	const s = "a 2>b;'c d'"
	first, _, _ := lex.All(s)
	second, _, _ := lex.All(s)
	kept := slices.Clone(second)
	for i := range first {
		first[i] = api.Token{Kind: 9, Text: "x", At: 9}
	}
	if !slices.Equal(second, kept) {
		t.Errorf("the other answer became %v", second)
	}
	spare := append(second[:1], api.Token{}) // what is ahead of it stays
	if spare[0] != kept[0] {
		t.Errorf("the first token became %v", spare[0])
	}
	want(t, s, word(0, "a"), io(2, "2"), sign(3, ">"), word(4, "b"), sign(5, ";"), word(6, "'c d'"))
}
