package lex_test

import (
	"strings"
	"testing"

	"almoner/api"
	"almoner/lex"
)

// wantPart holds the answer of Part against what it has to be.
func wantPart(t *testing.T, s string, quoted bool, size int) {
	t.Helper()
	if n := lex.Part(s, quoted); n != size {
		t.Errorf("Part(%q, %v) = %d; want %d", s, quoted, n, size)
	}
}

// wantWhole asks for a part that is all of s, whatever stands behind it, and does not end earlier. All reads it within a word, unless it is one only as within a `"`.
func wantWhole(t *testing.T, s string, quoted bool) {
	t.Helper()
	for _, behind := range []string{"", "a", " ", "\n", "'", `"`, `\`, "`", "$", "$(", "(", ")", "))", "}", "{", ";", "\x00", s} {
		wantPart(t, s+behind, quoted, len(s))
	}
	for i := 1; i < len(s); i++ {
		if n := lex.Part(s[:i], quoted); n > 0 {
			t.Errorf("Part(%q, %v) = %d, but the part ends at %d", s[:i], quoted, n, len(s))
		}
	}
	if quoted {
		whole := `"a` + s + `b"`
		wantPart(t, whole, false, len(whole))
		return
	}
	want(t, s+"a;"+s, word(0, s+"a"), sign(len(s)+1, ";"), word(len(s)+2, s))
	want(t, "a"+s+s+" b", word(0, "a"+s+s), word(2*len(s)+2, "b"))
}

// wantWholes asks for l in both ways.
func wantWholes(t *testing.T, l ...string) {
	t.Helper()
	for _, s := range l {
		wantWhole(t, s, false)
		wantWhole(t, s, true)
	}
}

// wantOpen asks that each of l does not end, in both ways.
func wantOpen(t *testing.T, l ...string) {
	t.Helper()
	for _, s := range l {
		wantPart(t, s, false, -1)
		wantPart(t, s, true, -1)
		wantError(t, s, len(s), api.ErrMore)
		wantError(t, "a;b"+s, len(s)+3, api.ErrMore)
	}
}

func TestNoPart(t *testing.T) {
	for _, s := range []string{"", "a", " ", "\n", "$", "$$", "$a", "$1", "$ ", "$\n", "$'a'", `$"a"`, "$`a`", `$\a`, "$$(a)", "$[1]", "$)", "$}", "(", "()", "((1))", ")", "{", "{a}", "}", "#", "a'b'", `a\b`, " ${a}", "\x00", "\xb4a\xb4", "\u2018a\u2019", "~", "*", "\n'a'", "$-", "$@", "$!", "$#"} {
		wantPart(t, s, false, 0)
		wantPart(t, s, true, 0)
	}
	for _, s := range []string{"'", "'a'", "''", "'a", `"`, `"a"`, `""`, `"a`, `"$(`, "'$("} {
		wantPart(t, s, true, 0)
	}
	for i := range 256 {
		c := string([]byte{byte(i)})
		if !strings.Contains("\\'\"`", c) {
			wantPart(t, c, false, 0)
			wantPart(t, c, true, 0)
			wantPart(t, c+c, false, 0)
			wantPart(t, c+"a)}", true, 0)
		}
		if !strings.Contains("({", c) {
			wantPart(t, "$"+c+")}", false, 0)
			wantPart(t, "$"+c+")}", true, 0)
		}
	}
}

// TestEscapes lays a `\` ahead of every byte.
func TestEscapes(t *testing.T) {
	for i := range 256 {
		c := string([]byte{byte(i)})
		wantPart(t, `\`+c, false, 2)
		wantPart(t, `\`+c, true, 2)
		wantPart(t, `\`+c+"a", false, 2)
		wantPart(t, `\`+c+`\`, true, 2)
		want(t, `a\`+c, word(0, `a\`+c))
		want(t, `a\`+c+`b c`, word(0, `a\`+c+`b`), word(5, "c"))
		wantWhole(t, `"\`+c+`"`, false)
		wantWholes(t, `$(\`+c+`)`, `${\`+c+`}`)
		if c != "\n" {
			want(t, `\`+c+"\n", word(0, `\`+c), sign(2, "\n"))
		}
	}
	wantOpen(t, `\`)
	wantWhole(t, `\\`, false)
	wantWhole(t, `\\`, true)
	wantOpen(t, `$(\`, `$(\)`, `$(\\\)`, `${\`, `${\}`, `${\\\}`)
}

func TestSingleQuotes(t *testing.T) {
	for i := range 256 {
		if c := string([]byte{byte(i)}); c != "'" {
			wantWhole(t, "'"+c+"'", false)
			wantWhole(t, "'a"+c+c+"b'", false)
		}
	}
	for _, s := range []string{"''", "'a'", "'a b'", `'\'`, `'\\'`, `'"'`, "'`'", "'$('", "'$(('", "'${'", "'(){}'", "'\n'", "'#'"} {
		wantWhole(t, s, false)
	}
	for _, s := range []string{"'", "'a", `'\`, `'\\`, "'\n", `'"`, "'${}", "'#\n"} {
		wantPart(t, s, false, -1)
		wantError(t, s, len(s), api.ErrMore)
	}
	want(t, "''''", word(0, "''''"))
	wantError(t, "'''", 3, api.ErrMore)
	want(t, `'\'b`, word(0, `'\'b`))
	wantError(t, `'\''`, 4, api.ErrMore)
}

func TestDoubleQuotes(t *testing.T) {
	for i := range 256 {
		if c := string([]byte{byte(i)}); !strings.Contains("\\\"`", c) {
			wantWhole(t, `"`+c+`"`, false)
			wantWhole(t, `"a`+c+`b"`, false)
		}
	}
	for _, s := range []string{`""`, `"a"`, `"a b"`, `"\""`, `"\\"`, `"\\\""`, `"\a"`, "\"\\\n\"", `"'"`, `"'a"`, `"''"`, `"('"`, `")"`, `"}"`, `"(("`, `"$"`, `"$$"`, `"$'"`, `"$a"`, `"#"`} {
		wantWhole(t, s, false)
	}
	// A `"` within parts does not end it.
	for _, s := range []string{`"$(")")"`, `"$("a")"`, `"$('"')"`, `"$('a')"`, "\"`\"`\"", "\"`\\\"`\"", `"${a"}"`, `"${"}"`, `"${a:-"b"}"`, `"${a:-'}"`, `"${'"'}"`, `"$((" ))"`, `"$((1))"`, `"$(a "$(b "c")")"`, `"${a:-$(b "c")}"`, `"$(` + "`\"`" + `)"`} {
		wantWhole(t, s, false)
	}
	for _, s := range []string{`"`, `"a`, `"\"`, `"'`, `"$(`, `"$("`, `"$(")"`, `"${"`, `"${a"`, "\"`\"", `"$(("`, `"$(")`, `"'$("'")'`} {
		wantPart(t, s, false, -1)
		wantError(t, s, len(s), api.ErrMore)
	}
	want(t, `""""`, word(0, `""""`))
	want(t, `"a" "b"c`, word(0, `"a"`), word(4, `"b"c`))
	want(t, `"'"'"'`, word(0, `"'"'"'`))
}

func TestArithmetic(t *testing.T) {
	wantWholes(t, "$(())", "$((1))", "$((1+2))", "$((a b))", "$((\n))", "$(( ))", "$(((1)))", "$((()))", "$(((())))", "$(( (1) ))", "$((1)2))", "$(()2))", "$((1) 2) 3))", "$((1) (2)))", "$((1) (2) ))", "$(() ))", "$(((1)2)3))", "$((((1))))", "$((()()()))", "$(()(()) ))", "$(()()) ))", "$((a)b(c)d))", "$((a)b(c(d)e)f))", "$(()()()))")
	// It contains no parts.
	wantWholes(t, `$((\))`, `$(('))`, `$(('a))`, `$(("))`, "$((`))", "$((${))", "$((${}))", "$(($()))", "$(($(())))", `$((')'))`, `$(("(")))`, "$(($)$))", `$((\) ))`, `$((\()))`, "$((#))", "$((#\n))", "$((;|&<>))")
	wantOpen(t, "$((", "$((1", "$((1)", "$((1) ", "$((1) )", "$((1)2)", "$(((", "$(((1)", "$(((1))", "$(((1) )", "$((()", "$((())", "$(((()))", "$((()) )", "$(( (1)2)3", "$((1) (2) )", "$((a) | (b)", "$((()()", "$((((1)))")
	wantPart(t, "$((1)))", false, 6)
	wantPart(t, "$((1))))", true, 6)
	wantPart(t, "$((1)) ))", false, 6)
	wantPart(t, "$(()))", false, 5)
	want(t, "$((1)))", word(0, "$((1))"), sign(6, ")"))
	want(t, "$((1;2)) $((a b))", word(0, "$((1;2))"), word(9, "$((a b))"))
	// A `$((` is no `$(` with a `(`.
	wantOpen(t, "$((a);(b)", "$((a) )")
	wantWholes(t, "$( (a);(b))", "$( (a) )")
}

func TestSubstitutions(t *testing.T) {
	wantWholes(t, "$()", "$(a)", "$( )", "$(\n)", "$(a b;c|d&e<f>g)", "$( ())", "$(a())", "$(a(b)c)", "$(a(b(c)d)e)", "$( ( ) ( ) )", "$( ((())))", "$(a()())", "$({)", "$(})", "$($)", "$($$)", "$($a)", "$(#)")
	// A `)` within a part does not end it, and a `(` there opens nothing.
	wantWholes(t, "$(')')", `$(")")`, `$(\))`, "$(`)`)", "$(${)})", "$($())", "$($(a))", "$($(()))", "$($((1)))", "$($((1) ) )))", "$('(')", `$("(")`, `$(\()`, "$(`(`)", "$(${(})", "$($(( )))", "$($((())))")
	wantWholes(t, "$(a')'b)", "$(a(')')b)", "$(a('(')b)", `$(a(\))b)`, `$( (")") )`, `$(a "b $(c ")" d)" e)`, "$(`a)`)", "$(a (`)`) )")
	// A comment within it is no part.
	wantPart(t, "$(#)\n)", false, 4)
	wantPart(t, "$(a #')'\n)", false, 10)
	wantPart(t, "$(case a in a) b;; esac)", false, 14)
	wantOpen(t, "$(", "$(a", "$(a(", "$(a()", "$(a(b)", "$(a(b", "$(a((b))", "$(')", "$(')'", `$(")`, `$(")"`, `$(\)`, "$(`)", "$(`)`", "$(${)", "$(${}", "$($(", "$($()", "$($((", "$($((1))", "$( (", "$( ()", "$(a #'\n)")
	want(t, "$(a))", word(0, "$(a)"), sign(4, ")"))
	want(t, "$$(a)", word(0, "$$(a)"))
	want(t, "$$$(a b)$", word(0, "$$$(a b)$"))
	want(t, "$ (a)", word(0, "$"), sign(2, "("), word(3, "a"), sign(4, ")"))
	want(t, "a(b)", word(0, "a"), sign(1, "("), word(2, "b"), sign(3, ")"))
	want(t, "<(a) >(b)", sign(0, "<"), sign(1, "("), word(2, "a"), sign(3, ")"), sign(5, ">"), sign(6, "("), word(7, "b"), sign(8, ")"))
}

func TestParameters(t *testing.T) {
	wantWholes(t, "${}", "${a}", "${ }", "${\n}", "${a:-b c}", "${a;b|c&d<e>f}", "${(}", "${)}", "${()}", "${((}", "${{}", "${a{}", "${#}", "${$}", "${$$}", "${$a}", "${a#b}", "${a%(}", "${a##*/}")
	wantWholes(t, `${\}}`, "${`}`}", "${$(})}", "${$((}))}", "${${}}", "${${a}}", "${a${b${c}}}", "${a$(b \"}\" '}')}", "${a:-$(b ${c})}")
	for _, s := range []string{"${'}'}", `${"}"}`, `${"'"}`, `${'"'}`, `${a:-"b}c"}`, "${a:-'b}c'}", `${a"${b"}"}`, "${a${'}'}}", `${a${"}"}}`, `${''""}`} {
		wantWhole(t, s, false)
	}
	wantOpen(t, "${", "${a", `${\}`, "${`}", "${`}`", "${$(}", "${$(})", "${$((}", "${$((}))", "${${}", "${${a}", "${a{", "${(")
	for _, s := range []string{"${'}", "${'}'", `${"}`, `${"}"`, "${a'}", `${a:-"}`, "${a${'}}"} {
		wantPart(t, s, false, -1)
		wantError(t, s, len(s), api.ErrMore)
	}
	want(t, "${a}}", word(0, "${a}}"))
	want(t, "$ {a}", word(0, "$"), word(2, "{a}"))
	want(t, "{ a b}", word(0, "{"), word(2, "a"), word(4, "b}"))
}

// TestQuotedParameters asks that neither quote begins a part in a `${` within a `"`, and what a `$(` between them makes of that.
func TestQuotedParameters(t *testing.T) {
	for _, s := range []string{"${'}", `${"}`, "${a'}", `${a"}`, `${a:-"}`, `${''"}`, "${${'}}", `${${"}}`, "${a:-${b:-'}}", `${"$(')' ")")'}`, "${$('}')}", `${$("}")}`, "${`'\"`'}"} {
		wantWhole(t, s, true)
	}
	for _, x := range []struct {
		s             string
		plain, quoted int
	}{
		{`${x:-"}"}y`, 9, 7}, {"${x:-'}'}y", 9, 7}, {"${'}", -1, 4}, {`${"}`, -1, 4}, {"${'}'}", 6, 4}, {"${${'}'}}", 9, 8},
		{`${a"}"b}`, 8, 5}, {"${'$('}", 7, -1}, {`${"$("}`, -1, -1}, {`${"\"}"}`, 8, 6}, {"${'\\'}", 6, 6}, {"${'\\}'}", 7, 7}, {"${'\\}", -1, -1}, {"${'\\\\}'}", 8, 6},
		{"$('}')", 6, 6}, {"$(')')", 6, 6}, {`$(")")`, 6, 6}, {"$(${')'})", 9, 9}, {"$(${'}'})", 9, 9}, {`$(${"}"})`, 9, 9}, {"${$(${'}'})}", 12, 12}, {`${$(${a:-"}"})}`, 15, 15}, {"${$('}')'}", -1, 10},
		{`$("${'}")`, 9, 9}, {`$("${"}")`, 9, 9}, {"$(${a:-`'`})", 12, 12},
	} {
		wantPart(t, x.s, false, x.plain)
		wantPart(t, x.s, true, x.quoted)
	}
	// Neither does a quote in one within a `"` that is itself within other parts.
	for _, s := range []string{`"${'}"`, `"${"}"`, `"${a:-"b"}"`, `"${a:-'b"}"`, `"${${'}}"`, `"${${"}}"`, `$("${'}")`, `${"${'}"}`, `${"${"}"}`, `"$("${'}")"`, `"$(${'}'})"`, `"${$(${'}'})}"`, `"${$(')}')}"`, `"${$(")}")}"`, `"${$("${'}")'}"`} {
		wantWhole(t, s, false)
	}
	for _, s := range []string{`"${'}'`, `"${'"'}`, `"${"`, `"${'"`, `"$(${'}"`, `"$(${'})"`, `"$(${"})"`} {
		wantPart(t, s, false, -1)
		wantError(t, s, len(s), api.ErrMore)
	}
}

func TestGraves(t *testing.T) {
	for i := range 256 {
		if c := string([]byte{byte(i)}); !strings.Contains("`\\", c) {
			wantWholes(t, "`"+c+"`", "`a"+c+"b`")
		}
		c := string([]byte{byte(i)})
		wantWholes(t, "`\\"+c+"`", "`a\\"+c+"b`")
	}
	// A `\` belongs to the byte behind it, and is not another one's, then.
	wantWholes(t, "``", "`a`", "`a b`", "`\n`", "`\\``", "`\\`a\\``", "`\\\\`", "`\\\\\\``", "`\\\\\\\\`", "`a\\\\\\\\\\`b`", "`\\\n`", "`\\a\\\\`")
	// It contains no parts.
	wantWholes(t, "`'`", "`\"`", "`$(`", "`$((`", "`${`", "`$(a`", "`\"\\`\"`", "`'\\`'`", "`#`", "`)`", "`}`", "`'a`", "`\\'`", "`\\$(`")
	wantOpen(t, "`", "`a", "`\\`", "`\\\\\\`", "`\\", "`a\\", "`\\\\", "`\\\\\\", "`\\`\\`", "`'", "`\n")
	want(t, "``` `a", word(0, "``` `a"))
	wantError(t, "```", 3, api.ErrMore)
	wantError(t, "`a``", 4, api.ErrMore)
	want(t, "`a b``c d`", word(0, "`a b``c d`"))
	want(t, "'`' `'` ", word(0, "'`'"), word(4, "`'`"))
	want(t, "\\`a`b c`", word(0, "\\`a`b c`"))
}

// TestCuts cuts parts that nest anywhere: what is left does not end.
func TestCuts(t *testing.T) {
	for _, s := range []string{
		"$(a \"b ${c:-`d \\`e\\``} $((f+(g)))\" 'h' \\i (j) ${k:-\"l\" 'm'})",
		"\"a $(b 'c' \"d\" ${e:-'f'} `g`) ${h:-i'j} $((k)) \\\" l\"",
		"${a:-$(b $(c $(d))) \"${e}\" 'f' $((1)2)) `g`}",
		"`a \\\\ \\` b`", "$((a (b (c) d) e) f))", "'a \\ \" b'",
	} {
		wantWhole(t, s, false)
		for i := range len(s) {
			if s[:i] == "" || s[:i] == "$" {
				wantPart(t, s[:i], false, 0)
				continue
			}
			wantPart(t, s[:i], false, -1)
			wantError(t, s[:i], i, api.ErrMore)
			wantError(t, "a; b"+s[:i], i+4, api.ErrMore)
		}
	}
}

// TestManyBytes asks Part, which has no longest string, for parts of many bytes.
func TestManyBytes(t *testing.T) {
	const n = 1000000
	many := func(s string) string { return strings.Repeat(s, n) }
	for _, s := range []string{"'" + many("ab\\\"$(") + "'", `"` + many(`a\"$'`) + `"`, "$((" + many("(") + many(")") + "))", "$((" + many(")(a)b") + "))", "$(a" + many("(") + many(")") + ")", "$(" + many("'a'${b}\\)") + ")", "${" + many("a\"}\"(") + "}", "`" + many("\\`\\\\") + "`"} {
		wantPart(t, s+"'\"`)}", false, len(s))
		wantPart(t, s[:len(s)-1], false, -1)
	}
	for _, s := range []string{many("$("), many("$(("), many("${"), many(`"$(`), many("("), many("$"), many("a")} {
		if n := lex.Part(s, false); n > 0 {
			t.Errorf("Part(%q..) = %d", s[:10], n)
		}
	}
}
