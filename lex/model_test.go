package lex_test

import (
	"math/rand/v2"
	"regexp"
	"slices"
	"strings"
	"testing"

	"almoner/api"
	"almoner/lex"
)

// open is a part in the model that has begun and not ended: with what, where, and the parentheses so far that are its own.
type open struct {
	with string
	at   int
	own  string
}

// machine goes through a script byte by byte, with a pile of the parts that are open.
type machine struct {
	s      string
	quoted bool // around all of s
	pile   []open
}

// quotes reports whether a quote begins no part here: only `${`s are between here and a `"`.
func (m *machine) quotes() bool {
	for _, x := range slices.Backward(m.pile) {
		if x.with != "${" {
			return x.with == `"`
		}
	}
	return m.quoted
}

var begins = regexp.MustCompile("^(\\\\|'|\"|\\$\\(\\(|\\$\\(|\\$\\{|`)")

// begun returns with what a part begins here.
func (m *machine) begun(at int) string {
	if n := len(m.pile); n > 0 && slices.Contains([]string{`\`, "'", "$((", "`"}, m.pile[n-1].with) {
		return ""
	}
	with := begins.FindString(m.s[at:])
	if m.quotes() && (with == "'" || with == `"`) {
		return ""
	}
	return with
}

// balance counts what is open in a text of parentheses, where one that closes nothing counts for nothing.
func balance(s string) int {
	n := 0
	for _, b := range []byte(s) {
		if b == '(' {
			n++
		}
		if b == ')' && n > 0 {
			n--
		}
	}
	return n
}

// ended returns how many bytes from here end the last part that is open.
func (m *machine) ended(at int) int {
	x, rest := m.pile[len(m.pile)-1], m.s[at:]
	from := x.at + len(x.with)
	is := false
	switch x.with {
	case `\`:
		is = true
	case "'", `"`:
		is = rest[:1] == x.with
	case "${":
		is = rest[0] == '}'
	case "$(":
		is = rest[0] == ')' && balance(x.own) == 0
	case "$((":
		if strings.HasPrefix(rest, "))") && balance(m.s[from:at]) == 0 {
			return 2
		}
	case "`":
		before := m.s[from:at]
		is = rest[0] == '`' && (len(before)-len(strings.TrimRight(before, `\`)))%2 == 0
	}
	if is {
		return 1
	}
	return 0
}

// step goes on from a place to the next one, or tells that a part is too deep.
func (m *machine) step(at int) (int, bool) {
	with := m.begun(at)
	if with == "" && len(m.pile) > 0 {
		last := len(m.pile) - 1
		if n := m.ended(at); n > 0 {
			m.pile = m.pile[:last]
			return at + n, false
		}
		if strings.ContainsAny(m.s[at:at+1], "()") {
			m.pile[last].own += m.s[at : at+1]
		}
		return at + 1, false
	}
	if with == "" {
		return at + 1, false
	}
	m.pile = append(m.pile, open{with: with, at: at})
	return at + len(with), len(m.pile) > 25
}

// modelPart is Part, by the model.
func modelPart(s string, quoted bool) int {
	m := machine{s: s, quoted: quoted}
	if m.begun(0) == "" {
		return 0
	}
	for at := 0; at < len(s); {
		next, deep := m.step(at)
		if deep {
			return -1
		}
		if at = next; len(m.pile) == 0 {
			return at
		}
	}
	return -1
}

var (
	skipped = regexp.MustCompile(`^([ \t]|\\\n|#[^\n]*)*`)
	firstOp = regexp.MustCompile("^(" + operators.String() + ")")
	ending  = regexp.MustCompile(`^[ \t\n|&;<>()]`)
	number  = regexp.MustCompile(`^[0-9]$`)
)

// modelWord returns the end of a word, or where an error is met.
func modelWord(s string, at int) (int, api.Errno) {
	m := machine{s: s}
	for at < len(s) && (len(m.pile) > 0 || !ending.MatchString(s[at:])) {
		next, deep := m.step(at)
		if deep {
			return at, api.ErrForm
		}
		at = next
	}
	if len(m.pile) > 0 {
		return at, api.ErrMore
	}
	return at, api.OK
}

// modelAll is All, by the model.
func modelAll(s string) ([]api.Token, int, api.Errno) {
	var l []api.Token
	for at := 0; ; {
		at += len(skipped.FindString(s[at:]))
		if at == len(s) {
			return append(l, api.Token{Kind: api.TokEnd, At: at}), 0, api.OK
		}
		if len(l) == 400 {
			return nil, at, api.ErrMany
		}
		if x := firstOp.FindString(s[at:]); x != "" {
			l = append(l, sign(at, x))
			at += len(x)
			continue
		}
		end, err := modelWord(s, at)
		if err != api.OK {
			return nil, end, err
		}
		x := word(at, s[at:end])
		if number.MatchString(x.Text) && end < len(s) && strings.Contains("<>", s[end:end+1]) {
			x.Kind = api.TokIO
		}
		l = append(l, x)
		at = end
	}
}

// wantModel holds All and Part against the model, and reports whether there are tokens.
func wantModel(t *testing.T, s string) bool {
	t.Helper()
	l, at, err := lex.All(s)
	wl, wat, werr := modelAll(s)
	if !slices.Equal(l, wl) || at != wat || err != werr {
		t.Errorf("All(%q) = %v, %d, %v; want %v, %d, %v", s, l, at, err, wl, wat, werr)
	}
	for _, quoted := range []bool{false, true} {
		wantPart(t, s, quoted, modelPart(s, quoted))
	}
	wantConsequences(t, s, l)
	return err == api.OK
}

// wantConsequences asks that the tokens are in the order of s, and that their Texts are the same tokens.
func wantConsequences(t *testing.T, s string, l []api.Token) {
	t.Helper()
	end, joined := 0, ""
	for _, x := range l {
		if x.At < end || x.At+len(x.Text) > len(s) || s[x.At:x.At+len(x.Text)] != x.Text {
			t.Errorf("All(%q) = %v: the bytes of %v", s, l, x)
			return
		}
		end = x.At + len(x.Text)
		joined += x.Text + " "
	}
	if len(l) == 0 || len(joined) > 4096 {
		return
	}
	again, _, err := lex.All(joined)
	same := slices.EqualFunc(l, again, func(x, y api.Token) bool {
		return x.Text == y.Text && (x.Kind == y.Kind || x.Kind == api.TokIO && y.Kind == api.TokWord)
	})
	if !same || err != api.OK {
		t.Errorf("All(%q) = %v, but of its Texts %v, %v", s, l, again, err)
	}
}

// texts returns all texts of some bytes.
func texts(longest int, bytes string) []string {
	l, last := []string{""}, []string{""}
	for range longest {
		var longer []string
		for _, s := range last {
			for i := range len(bytes) {
				longer = append(longer, s+bytes[i:i+1])
			}
		}
		l, last = append(l, longer...), longer
	}
	return l
}

// TestShortTexts holds all short texts of some bytes against the model.
func TestShortTexts(t *testing.T) {
	right := 0
	for _, x := range []struct {
		longest int
		bytes   string
	}{
		{4, "\\'\"$(){}` \t\n#|&;<>1a"}, {7, `$()\a`}, {7, `"$({)}`}, {7, "`\\$\"("}, {8, "$()a"}, {8, "\\`\"'"}, {6, "$(){}'\""}, {6, "1<> \\\n#"}, {6, "'\"\\ ;a"}, {10, "$()"}, {10, "`\\a"},
	} {
		for _, s := range texts(x.longest, x.bytes) {
			if wantModel(t, s) {
				right++
			}
		}
	}
	if right < 100000 {
		t.Errorf("only %d scripts", right)
	}
}

// TestShortParts holds all short texts behind the beginnings of parts against the model.
func TestShortParts(t *testing.T) {
	for _, left := range []string{"$((", `"${`, "\"$(", "$(${", "${$(", `"${${`, "$(\"${", "\"$(${", "`\\", "$($((", `"$((`} {
		for _, s := range texts(5, "()}'\"`\\$") {
			wantModel(t, left+s)
		}
	}
}

// writer makes random texts.
type writer struct {
	*rand.Rand
}

func (w writer) one(l ...string) string { return l[w.IntN(len(l))] }

// some joins up to n texts.
func (w writer) some(n int, text func() string) string {
	s := ""
	for range w.IntN(n + 1) {
		s += text()
	}
	return s
}

// part writes a part, with others in it down to a depth.
func (w writer) part(depth int, quoted bool) string {
	kind := w.one(`\`, "'", `"`, "$((", "$(", "${", "`", `"`, "$(", "${")
	if depth <= 1 {
		kind = w.one(`\`, "'", "$((", "`")
	}
	if quoted && (kind == "'" || kind == `"`) {
		kind = "${"
		if depth <= 1 {
			kind = `\`
		}
	}
	switch kind {
	case `\`:
		return `\` + w.one("a", "\n", `\`, "'", `"`, "$", "`", ")", "}", "(", " ", "\x00")
	case "'":
		return "'" + w.some(4, func() string { return w.one("a", `\`, `"`, "$(", "${", "`", ")", "}", "(", " ", "\n", "#", ";") }) + "'"
	case "`":
		return "`" + w.some(4, func() string { return w.one("a", `\\`, "\\`", `\"`, "'", `"`, "$((", "${", ")", "}", " ", "\n", "#") }) + "`"
	case "$((":
		return "$((" + w.some(4, func() string { return w.sum(3) + w.one("", "", "a", ")a", ") ") }) + "))"
	case `"`:
		return `"` + w.items(depth-1, true, "(", ")", "}", "'", "((") + `"`
	case "$(":
		return "$(" + w.one("", "a", " ", "a") + w.command(depth-1) + ")"
	}
	if quoted {
		return "${" + w.items(depth-1, true, "(", ")", "'", `"`) + "}"
	}
	return "${" + w.items(depth-1, false, "(", ")", "))") + "}"
}

// sum writes bytes with parentheses that all close within them.
func (w writer) sum(depth int) string {
	if depth == 0 || w.IntN(2) == 0 {
		return w.one("a", " ", "1", "+", `\`, "'", `"`, "`", "$", "${", "}", "\n")
	}
	return "(" + w.some(2, func() string { return w.sum(depth - 1) }) + ")"
}

// items writes parts and other bytes, of which some are only for this place.
func (w writer) items(depth int, quoted bool, own ...string) string {
	return w.some(3, func() string {
		if depth > 0 && w.IntN(2) == 0 {
			return w.part(depth, quoted)
		}
		return w.one(append(own, "a", " ", "$a", "$$ ", "{", "#", "\n", ";", "|", "<", "1>")...)
	})
}

// command writes what is within a `$(`, the parentheses of which all close within it.
func (w writer) command(depth int) string {
	s := w.items(depth, false, "}", "=")
	if w.IntN(3) == 0 {
		s += "x(" + w.items(depth, false, "}") + "())" + w.items(depth, false)
	}
	return s
}

// script writes a script of words with parts and of operators by turns, and its tokens but for the end.
func (w writer) script() (string, []api.Token) {
	s, tokens := "", []api.Token(nil)
	add := func(kind int, text string) {
		tokens = append(tokens, api.Token{Kind: kind, Text: text, At: len(s)})
		s += text
	}
	for range w.IntN(12) {
		s += w.one("", " ", "\t", " \\\n")
		if w.IntN(5) == 0 {
			s += " #a'b \\"
			add(api.TokSign, "\n")
		}
		part := w.part(1+w.IntN(7), false)
		if w.IntN(2) == 0 {
			part = `"` + w.part(1+w.IntN(7), true) + `"`
		}
		add(api.TokWord, w.one("", "a", "1", "$")+"="+part+w.one("", "", "#", "{", "$b"))
		if w.IntN(4) == 0 {
			s += " "
			add(api.TokIO, w.one("0", "1", "2", "7", "9"))
			add(api.TokSign, w.one("<", ">", ">>", "<&", ">&", "<>", ">|"))
			continue
		}
		s += w.one("", " ")
		add(api.TokSign, w.one("\n", "|", ";", "&", "(", ")", "<", ">", "&&", "||", ";;", ">>", "<&", ">&", "<>", ">|"))
	}
	return s, tokens
}

// TestWritten asks for the tokens of scripts and the ends of parts as they were written.
func TestWritten(t *testing.T) {
	for seed := range uint64(30000) {
		w := writer{rand.New(rand.NewPCG(14, seed))}
		for _, quoted := range []bool{false, true} {
			part := w.part(1+w.IntN(9), quoted)
			for _, behind := range []string{"", "a", `"`, ")", "}", "'", "`", "))"} {
				wantPart(t, part+behind, quoted, len(part))
			}
		}
		s, tokens := w.script()
		if len(s) > 4096 {
			wantError(t, s, 0, api.ErrLong)
			continue
		}
		want(t, s, tokens...)
		wantConsequences(t, s, append(tokens, api.Token{Kind: api.TokEnd, At: len(s)}))
	}
}

// TestRandomTexts holds random texts from fixed seeds against the model.
func TestRandomTexts(t *testing.T) {
	right, wrong := 0, 0
	for seed := range uint64(60000) {
		w := writer{rand.New(rand.NewPCG(41, seed))}
		s := w.some(6, func() string {
			return w.one("a", "1", " ", "\n", ";", "2>", "<", "#", `\`, "'", `"`, "`", "$", "$(", "$((", "${", "(", ")", "))", "}", w.part(4, false), w.part(3, true), `"`+w.part(3, true)+`"`)
		})
		if seed%3 == 0 {
			at := w.IntN(len(s) + 1)
			s = s[:at] + s[min(len(s), at+w.IntN(3)):]
		}
		if wantModel(t, s) {
			right++
		} else {
			wrong++
		}
	}
	if right < 15000 || wrong < 15000 {
		t.Errorf("%d scripts and %d other texts", right, wrong)
	}
}

// TestRandomDepths nests what nests in random order, about as deep as it may.
func TestRandomDepths(t *testing.T) {
	right, wrong := 0, 0
	for seed := range uint64(20000) {
		w := writer{rand.New(rand.NewPCG(24, seed))}
		left, behind := w.one("", "a", "a;"), ""
		quoted := false
		for range 22 + w.IntN(5) {
			x := w.one("$(", "${", `"`)
			if quoted && x == `"` {
				x = "$("
			}
			quoted = x == `"` || x == "${" && quoted
			filler := w.one("", "", "", "a", "(b)", "${c}", `\d`, "`e`", "$((1))")
			if x == "$(" && strings.HasPrefix(filler, "(") {
				filler = " " + filler
			}
			left += x + filler
			behind = map[string]string{"$(": ")", "${": "}", `"`: `"`}[x] + w.one("", "", "b") + behind
		}
		if wantModel(t, left+w.one("", "f", "'", `\g`, "''", "`", "$((h))")+behind) {
			right++
		} else {
			wrong++
		}
	}
	if right < 2000 || wrong < 2000 {
		t.Errorf("%d scripts and %d other texts", right, wrong)
	}
}

// TestMadeUp calls both functions with random bytes.
func TestMadeUp(t *testing.T) {
	for seed := range uint64(20000) {
		w := writer{rand.New(rand.NewPCG(7, seed))}
		b := make([]byte, w.IntN(60))
		for i := range b {
			b[i] = byte(w.IntN(256))
			if w.IntN(3) == 0 {
				b[i] = "\\'\"$(){}`"[w.IntN(9)]
			}
		}
		wantModel(t, string(b))
	}
}
