package lex_test

import (
	"regexp"
	"slices"
	"strings"
	"testing"

	"almoner/api"
	"almoner/lex"
)

// word, sign and io make the tokens of a row.
func word(at int, text string) api.Token { return api.Token{Kind: api.TokWord, Text: text, At: at} }
func sign(at int, text string) api.Token { return api.Token{Kind: api.TokSign, Text: text, At: at} }
func io(at int, text string) api.Token   { return api.Token{Kind: api.TokIO, Text: text, At: at} }

// want holds the tokens of s against what they have to be, but for the end, which each script has.
func want(t *testing.T, s string, tokens ...api.Token) {
	t.Helper()
	l, at, err := lex.All(s)
	tokens = append(slices.Clone(tokens), api.Token{Kind: api.TokEnd, Text: "", At: len(s)})
	if !slices.Equal(l, tokens) || at != 0 || err != api.OK {
		t.Errorf("All(%q) = %v, %d, %v; want %v", s, l, at, err, tokens)
	}
}

// wantError asks for an error without any token.
func wantError(t *testing.T, s string, offset int, fault api.Errno) {
	t.Helper()
	if l, at, err := lex.All(s); len(l) != 0 || at != offset || err != fault {
		t.Errorf("All(%q) = %v, %d, %v; want none, %d, %v", s, l, at, err, offset, fault)
	}
}

// wantWords asks for words only, the bytes between which are blanks.
func wantWords(t *testing.T, texts ...string) {
	t.Helper()
	for _, between := range []string{" ", "\t", " \t  ", "\\\n ", " \\\n"} {
		s, tokens := between, []api.Token(nil)
		for _, text := range texts {
			tokens = append(tokens, word(len(s), text))
			s += text + between
			if between == "\\\n " {
				tokens[len(tokens)-1].Text += "\\\n" // right behind a word it belongs to the word
			}
		}
		want(t, s, tokens...)
	}
	s := strings.Join(texts, " ")
	tokens, at := []api.Token(nil), 0
	for _, text := range texts {
		tokens = append(tokens, word(at, text))
		at += len(text) + 1
	}
	want(t, s, tokens...)
}

func TestExamples(t *testing.T) {
	want(t, `echo "a b" $(ls | cat)>f`, word(0, "echo"), word(5, `"a b"`), word(11, "$(ls | cat)"), sign(22, ">"), word(23, "f"))
	want(t, "2>x", io(0, "2"), sign(1, ">"), word(2, "x"))
	wantError(t, "'a", 2, api.ErrMore)
	wantPart(t, `${x:-"}"}y`, false, 9)
}

func TestNothing(t *testing.T) {
	for _, s := range []string{"", " ", "\t", " \t \t", "\\\n", "\\\n\\\n", " \\\n\t\\\n ", "#", "##", "# a", "#a\\", "#'", "#\"$(${`\\", "#$((", " #a b\tc;d|e", "\\\n#a", "# \\", strings.Repeat(" ", 4096), "#" + strings.Repeat("x", 4095), strings.Repeat("\\\n", 2048)} {
		want(t, s)
	}
}

func TestSkipped(t *testing.T) {
	want(t, " a\t b ", word(1, "a"), word(4, "b"))
	want(t, "\\\na \\\n\\\n b\t\\\n", word(2, "a"), word(9, "b"))
	want(t, "a \\\n#b\n", word(0, "a"), sign(6, "\n"))
	want(t, "a#b #c d\ne", word(0, "a#b"), sign(8, "\n"), word(9, "e"))
	want(t, "#a\n#b\n\n", sign(2, "\n"), sign(5, "\n"), sign(6, "\n"))
	want(t, ";#a\n", sign(0, ";"), sign(3, "\n"))
	want(t, ")#'\n(#", sign(0, ")"), sign(3, "\n"), sign(4, "("))
	want(t, "2>#x", io(0, "2"), sign(1, ">"))
	want(t, "&#&", sign(0, "&"))
	want(t, "a\\\n#b", word(0, "a\\\n#b"))
	want(t, "''#b", word(0, "''#b"))
	want(t, "$#b $# ${#} $(#)", word(0, "$#b"), word(4, "$#"), word(7, "${#}"), word(12, "$(#)"))
	want(t, `\#b "#" '#'`, word(0, `\#b`), word(4, `"#"`), word(8, "'#'"))
	// The `\` at the end of a comment does not join the lines.
	want(t, "#a\\\nb", sign(3, "\n"), word(4, "b"))
	want(t, "#a\r\nb", sign(3, "\n"), word(4, "b"))
	want(t, "#\x00\xff\nb", sign(3, "\n"), word(4, "b"))
	// A `\` and a line feed part operators, and belong to words.
	want(t, "&\\\n&", sign(0, "&"), sign(3, "&"))
	want(t, "<\\\n\\\n>", sign(0, "<"), sign(5, ">"))
	want(t, "a\\\nb", word(0, "a\\\nb"))
	want(t, "a\\\n b", word(0, "a\\\n"), word(4, "b"))
	want(t, "a\\\n", word(0, "a\\\n"))
	want(t, "a\\\n;", word(0, "a\\\n"), sign(3, ";"))
	want(t, "\\\n\n\\\n", sign(2, "\n"))
	want(t, "\\\\\n", word(0, "\\\\"), sign(2, "\n"))
	want(t, "\\ \n", word(0, "\\ "), sign(2, "\n"))
	want(t, "\\\r\n", word(0, "\\\r"), sign(2, "\n"))
	want(t, "\\\n\\a", word(2, "\\a"))
	want(t, "\\a\\\n", word(0, "\\a\\\n"))
}

// operators matches the longest operator first.
var operators = regexp.MustCompile(`&&|\|\||;;|>>|<&|>&|<>|>\||[|;&()<>\n]`)

// TestSigns lays up to four bytes of operators side by side.
func TestSigns(t *testing.T) {
	for _, s := range texts(4, "|&;<>()\n") {
		var tokens, apart []api.Token
		joined := ""
		for _, x := range operators.FindAllStringIndex(s, -1) {
			tokens = append(tokens, sign(x[0], s[x[0]:x[1]]))
			apart = append(apart, sign(len(joined), s[x[0]:x[1]]))
			joined += s[x[0]:x[1]] + " "
		}
		want(t, s, tokens...)
		want(t, joined, apart...)
		want(t, "a"+s, append([]api.Token{word(0, "a")}, moved(tokens, 1)...)...)
		want(t, s+"a", append(tokens, word(len(s), "a"))...)
	}
}

// moved is l, that much further right.
func moved(l []api.Token, by int) []api.Token {
	l = slices.Clone(l)
	for i := range l {
		l[i].At += by
	}
	return l
}

func TestLongestSign(t *testing.T) {
	want(t, "a&&b||c;;d>>e", word(0, "a"), sign(1, "&&"), word(3, "b"), sign(4, "||"), word(6, "c"), sign(7, ";;"), word(9, "d"), sign(10, ">>"), word(12, "e"))
	want(t, "<&>&<>>|", sign(0, "<&"), sign(2, ">&"), sign(4, "<>"), sign(6, ">|"))
	want(t, "&&&|||;;;>>>", sign(0, "&&"), sign(2, "&"), sign(3, "||"), sign(5, "|"), sign(6, ";;"), sign(8, ";"), sign(9, ">>"), sign(11, ">"))
	want(t, "<<<-<|&>|&", sign(0, "<"), sign(1, "<"), sign(2, "<"), word(3, "-"), sign(4, "<"), sign(5, "|"), sign(6, "&"), sign(7, ">|"), sign(9, "&"))
	want(t, "(())\n\n", sign(0, "("), sign(1, "("), sign(2, ")"), sign(3, ")"), sign(4, "\n"), sign(5, "\n"))
	want(t, "& & | | > > < >", sign(0, "&"), sign(2, "&"), sign(4, "|"), sign(6, "|"), sign(8, ">"), sign(10, ">"), sign(12, "<"), sign(14, ">"))
	wantWords(t, "!", "{", "}", "=", "^", "%", "*", "?", "[", "]", "~", "+", "-", ",", ".", "/", ":", "@", "!=", "{}", "[[")
}

// TestBytes lays every byte alone, behind an `a`, ahead of one, and between two.
func TestBytes(t *testing.T) {
	for i := range 256 {
		c := string([]byte{byte(i)})
		switch {
		case strings.Contains(" \t", c):
			want(t, c)
			want(t, "a"+c, word(0, "a"))
			want(t, c+"a", word(1, "a"))
			want(t, "a"+c+"a", word(0, "a"), word(2, "a"))
		case strings.Contains("\n|&;<>()", c):
			want(t, c, sign(0, c))
			want(t, "a"+c, word(0, "a"), sign(1, c))
			want(t, c+"a", sign(0, c), word(1, "a"))
			want(t, "a"+c+"a", word(0, "a"), sign(1, c), word(2, "a"))
		case c == "#":
			want(t, c)
			want(t, c+"a")
			want(t, "a"+c, word(0, "a#"))
			want(t, "a"+c+"a", word(0, "a#a"))
		case c == `\`:
			wantError(t, c, 1, api.ErrMore)
			wantError(t, "a"+c, 2, api.ErrMore)
			want(t, c+"a", word(0, `\a`))
			want(t, "a"+c+"a", word(0, `a\a`))
		case strings.Contains("'\"`", c):
			wantError(t, c, 1, api.ErrMore)
			wantError(t, "a"+c, 2, api.ErrMore)
			wantError(t, c+"a", 2, api.ErrMore)
			wantError(t, "a"+c+"a", 3, api.ErrMore)
		default:
			wantWords(t, c, "a"+c, c+"a", "a"+c+"a", c+c)
		}
	}
}

func TestIO(t *testing.T) {
	for d := range 256 {
		c := string([]byte{byte(d)})
		if '0' > d || d > '9' {
			continue
		}
		for _, x := range []string{"<", ">", ">>", "<&", ">&", "<>", ">|"} {
			want(t, c+x, io(0, c), sign(1, x))
			want(t, ";"+c+x+"f", sign(0, ";"), io(1, c), sign(2, x), word(2+len(x), "f"))
			want(t, c+" "+x, word(0, c), sign(2, x))
			want(t, c+"\\\n"+x, word(0, c+"\\\n"), sign(3, x))
			want(t, "1"+c+x, word(0, "1"+c), sign(2, x))
			want(t, "a"+c+x, word(0, "a"+c), sign(2, x))
			want(t, c+"a"+x, word(0, c+"a"), sign(2, x))
			want(t, c+"''"+x, word(0, c+"''"), sign(3, x))
			want(t, "'"+c+"'"+x, word(0, "'"+c+"'"), sign(3, x))
			want(t, `\`+c+x, word(0, `\`+c), sign(2, x))
			want(t, "$"+c+x, word(0, "$"+c), sign(2, x))
			want(t, x+c+x, sign(0, x), io(len(x), c), sign(len(x)+1, x))
			want(t, x+c, sign(0, x), word(len(x), c))
			want(t, "\\\n"+c+x, io(2, c), sign(3, x))
			want(t, " "+c+x+" "+c+x, io(1, c), sign(2, x), io(3+len(x), c), sign(4+len(x), x))
			want(t, c+x+"(", io(0, c), sign(1, x), sign(1+len(x), "("))
		}
		for _, x := range []string{"|", "||", "&", "&&", ";", ";;", "(", ")", "\n"} {
			want(t, c+x, word(0, c), sign(1, x))
		}
		want(t, c+"&>f", word(0, c), sign(1, "&"), sign(2, ">"), word(3, "f"))
		want(t, c, word(0, c))
		want(t, c+"#>", word(0, c+"#"), sign(2, ">"))
	}
}

// TestNoIO lays every byte that is no digit ahead of a `<` and of a `>`.
func TestNoIO(t *testing.T) {
	for i := range 256 {
		c := string([]byte{byte(i)})
		for _, x := range []string{"<", ">"} {
			if !strings.Contains("0123456789", c) {
				l, _, _ := lex.All(c + x)
				if slices.ContainsFunc(l, func(token api.Token) bool { return token.Kind == api.TokIO }) {
					t.Errorf("All(%q) = %v", c+x, l)
				}
			}
		}
	}
	want(t, "-1>f", word(0, "-1"), sign(2, ">"), word(3, "f"))
	want(t, "\u0662>f", word(0, "\u0662"), sign(2, ">"), word(3, "f"))
	want(t, "10>f", word(0, "10"), sign(2, ">"), word(3, "f"))
	want(t, "1=2>f", word(0, "1=2"), sign(3, ">"), word(4, "f"))
}

// TestWordEnds lays what ends a word behind parts of each kind, and within them.
func TestWordEnds(t *testing.T) {
	parts := []string{`\a`, `\ `, `\;`, "\\\\", "''", "' '", "'|&;<>()\n\t #'", `""`, `" "`, "\"|&;<>()\n\t #'\"", "$(())", "$(( |&;<>\n\t# ))", "$()", "$( |&;<>\n\t# )", "${}", "${ |&;<>()\n\t# }", "``", "` |&;<>()\n\t# `"}
	for _, x := range parts {
		for _, y := range append([]string{"", "a", "$", "#", "}", "{", "=", "1"}, parts...) {
			s := x + y
			wantWords(t, s, "a"+s, "-"+s+s)
			for _, b := range []string{" ", "\t", " \t"} {
				want(t, s+b, word(0, s))
				want(t, s+b+s, word(0, s), word(len(s+b), s))
			}
			for _, b := range []string{"\n", "|", "&", ";", "<", ">", "(", ")"} {
				if b == "(" && y == "$" {
					continue // they begin a part
				}
				want(t, s+b, word(0, s), sign(len(s), b))
				want(t, s+b+s, word(0, s), sign(len(s), b), word(len(s)+1, s))
			}
		}
	}
}

func TestScripts(t *testing.T) {
	want(t, "if a\nthen b;fi >f", word(0, "if"), word(3, "a"), sign(4, "\n"), word(5, "then"), word(10, "b"), sign(11, ";"), word(12, "fi"), sign(15, ">"), word(16, "f"))
	want(t, "f() { g; }", word(0, "f"), sign(1, "("), sign(2, ")"), word(4, "{"), word(6, "g"), sign(7, ";"), word(9, "}"))
	want(t, "{a;}", word(0, "{a"), sign(2, ";"), word(3, "}"))
	want(t, "! x=1 y=$((1+(2)))&", word(0, "!"), word(2, "x=1"), word(6, "y=$((1+(2)))"), sign(18, "&"))
	want(t, "case $x in (a|b*) c 2>&1;; esac # end", word(0, "case"), word(5, "$x"), word(8, "in"), sign(11, "("), word(12, "a"), sign(13, "|"), word(14, "b*"), sign(16, ")"), word(18, "c"), io(20, "2"), sign(21, ">&"), word(23, "1"), sign(24, ";;"), word(27, "esac"))
	want(t, "echo a\\ b'c d'\"e $(f \"g h\") i\"`j k`", word(0, "echo"), word(5, "a\\ b'c d'\"e $(f \"g h\") i\"`j k`"))
	want(t, "a=${b:-'c d'}${e#*/}f$g$", word(0, "a=${b:-'c d'}${e#*/}f$g$"))
}

func TestLong(t *testing.T) {
	for _, x := range []string{"a", " ", ";", "#", "'", "\\", "(", "$(", "\"", "$((", "x y "} {
		wantError(t, strings.Repeat(x, 4097)[:4097], 0, api.ErrLong)
	}
	wantError(t, strings.Repeat(" ", 4096)+"a", 0, api.ErrLong)
	wantError(t, "a#"+strings.Repeat("x", 4095), 0, api.ErrLong)
	wantError(t, strings.Repeat("x", 16000000), 0, api.ErrLong)
	for _, x := range []string{strings.Repeat("a", 4096), "'" + strings.Repeat("a", 4094) + "'", "$((" + strings.Repeat("(", 2045) + strings.Repeat(")", 2047) + "a"} {
		want(t, x, word(0, x))
	}
	want(t, strings.Repeat(" ", 4095)+"a", word(4095, "a"))
	want(t, strings.Repeat("#", 4095)+"\n", sign(4095, "\n"))
	wantError(t, "'"+strings.Repeat("a", 4095), 4096, api.ErrMore)
	wantError(t, strings.Repeat(" ", 4095)+"\\", 4096, api.ErrMore)
}
