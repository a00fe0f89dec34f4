package glob

import (
	"math/rand/v2"
	"strings"
	"testing"
)

// sign is a byte of a pattern, and whether it is quoted.
type sign struct {
	b      byte
	quoted bool
}

// is reports whether a sign has the meaning that b has of its own.
func (x sign) is(b byte) bool { return x.b == b && !x.quoted }

func signsOf(p string) []sign {
	if p == "" {
		return nil
	}
	if p[0] == '\\' && len(p) > 1 {
		return append([]sign{{p[1], true}}, signsOf(p[2:])...)
	}
	return append([]sign{{p[0], false}}, signsOf(p[1:])...)
}

// setOf tries one `]` behind the other as the end of a set that begins here.
func setOf(l []sign) (members []sign, not bool, rest []sign, ok bool) {
	if !l[0].is('[') {
		return nil, false, nil, false
	}
	for end := range l {
		if !l[end].is(']') {
			continue
		}
		members, not = l[1:end], false
		if len(members) > 0 && members[0].is('!') {
			members, not = members[1:], true
		}
		if len(members) > 0 {
			return members, not, l[end+1:], true
		}
	}
	return nil, false, nil, false
}

func isMember(l []sign, b byte) bool {
	switch {
	case len(l) == 0:
		return false
	case len(l) >= 3 && l[1].is('-'):
		return l[0].b <= b && b <= l[2].b || isMember(l[3:], b)
	}
	return l[0].b == b || isMember(l[1:], b)
}

// plainMatch is Match by its words: each way to share out s is tried.
func plainMatch(l []sign, s string) bool {
	if len(l) == 0 {
		return s == ""
	}
	if l[0].is('*') {
		return plainMatch(l[1:], s) || s != "" && plainMatch(l, s[1:])
	}
	if s == "" {
		return false
	}
	if members, not, rest, ok := setOf(l); ok {
		return isMember(members, s[0]) != not && plainMatch(rest, s[1:])
	}
	return (l[0].is('?') || l[0].b == s[0]) && plainMatch(l[1:], s[1:])
}

func plainHas(l []sign) bool {
	if len(l) == 0 {
		return false
	}
	_, _, _, ok := setOf(l)
	return ok || l[0].is('*') || l[0].is('?') || plainHas(l[1:])
}

func plainPlain(l []sign) string {
	text := ""
	for _, x := range l {
		text += one(int(x.b))
	}
	return text
}

// shortTexts are all texts of at most size of these bytes.
func shortTexts(bytes string, size int) []string {
	texts := []string{""}
	last := texts
	for range size {
		var longer []string
		for _, s := range last {
			for i := range len(bytes) {
				longer = append(longer, s+bytes[i:i+1])
			}
		}
		texts = append(texts, longer...)
		last = longer
	}
	return texts
}

// holdAgainst asks of a pattern and a string what the plain functions say of them.
func holdAgainst(t *testing.T, p, s string) bool {
	t.Helper()
	want := plainMatch(signsOf(p), s)
	if Match(p, s, false) != want {
		t.Fatalf("Match(%q, %q) = %v", p, s, !want)
	}
	withDot := want && (!strings.HasPrefix(s, ".") || strings.HasPrefix(p, ".") || strings.HasPrefix(p, `\.`))
	if Match(p, s, true) != withDot {
		t.Fatalf("Match(%q, %q, dot) = %v", p, s, !withDot)
	}
	return want
}

func holdOthersAgainst(t *testing.T, p string) {
	t.Helper()
	l := signsOf(p)
	if got := Has(p); got != plainHas(l) {
		t.Fatalf("Has(%q) = %v", p, got)
	}
	if got, want := Plain(p), plainPlain(l); got != want {
		t.Fatalf("Plain(%q) = %q, not %q", p, got, want)
	}
}

func TestShortPatterns(t *testing.T) {
	texts := shortTexts("ab*?[]!-\\.", 2)
	for _, p := range shortTexts("ab*?[]!-\\.", 4) {
		holdOthersAgainst(t, p)
		for _, s := range texts {
			holdAgainst(t, p, s)
		}
	}
}

// TestShortSets holds what stands between brackets, or behind an open one, against the bytes that it may be about.
func TestShortSets(t *testing.T) {
	texts := strings.Split("a b c d - ! [ ] \\ , . ^ [] a] -] b]", " ")
	for _, inner := range shortTexts("ac-!]\\", 6) {
		p := "[" + inner + "]"
		holdOthersAgainst(t, p)
		for _, s := range texts {
			holdAgainst(t, p, s)
		}
	}
}

func TestShortStars(t *testing.T) {
	texts := shortTexts("ab", 8)
	for _, p := range shortTexts("ab*?", 5) {
		for _, s := range texts {
			holdAgainst(t, p, s)
		}
	}
}

// someText makes a text of these bytes.
func someText(r *rand.Rand, bytes string, size int) string {
	text := ""
	for range r.IntN(size + 1) {
		text += one(int(bytes[r.IntN(len(bytes))]))
	}
	return text
}

// someMatch makes a string that a pattern may match: its bytes, with some for what is special.
func someMatch(r *rand.Rand, p, bytes string) string {
	text := ""
	for l := signsOf(p); len(l) > 0; {
		members, _, rest, ok := setOf(l)
		switch {
		case l[0].is('*'):
			text += someText(r, bytes, 3)
		case l[0].is('?'):
			text += one(int(bytes[r.IntN(len(bytes))]))
		case ok:
			text += one(int(members[r.IntN(len(members))].b))
			l = rest
			continue
		default:
			text += one(int(l[0].b))
		}
		l = l[1:]
	}
	return text
}

func TestSomePatterns(t *testing.T) {
	r := rand.New(rand.NewPCG(12, 1))
	var all strings.Builder
	for b := range 256 {
		all.WriteByte(byte(b))
	}
	for _, bytes := range []string{"ab*", "abc*?", "ab*?[]-!", "ac.-![]\\", "ab[]\\*", "ab/.*?[]!-\\^:", all.String(), all.String() + strings.Repeat("*?[]!-\\", 40)} {
		matched, count := 0, 30000
		for range count {
			p := someText(r, bytes, 14)
			holdOthersAgainst(t, p)
			for _, s := range []string{someText(r, bytes, 8), someMatch(r, p, bytes), Plain(p)} {
				if holdAgainst(t, p, s) {
					matched++
				}
			}
		}
		if matched < count/2 || matched > 3*count-count/20 {
			t.Errorf("of patterns of %q %d strings are matched", bytes, matched)
		}
	}
}

// TestConsequences: what is quoted matches itself only, and so does the Plain of a pattern without special parts.
func TestConsequences(t *testing.T) {
	texts := shortTexts("a*?[]!-\\.", 3)
	check := func(p, only string) {
		for _, dot := range []bool{false, true} {
			if !Match(p, only, dot) {
				t.Fatalf("Match(%q, %q, %v) = false", p, only, dot)
			}
		}
		for _, s := range texts {
			if s != only && Match(p, s, false) {
				t.Fatalf("Match(%q, %q) = true", p, s)
			}
		}
	}
	for _, s := range texts {
		q := Quote(s)
		if Has(q) || Plain(q) != s {
			t.Fatalf("Quote(%q) = %q", s, q)
		}
		check(q, s)
		if !Has(s) {
			check(s, Plain(s))
		}
	}
}

// TestQuoteAround sets quoted texts ahead of special parts and behind them.
func TestQuoteAround(t *testing.T) {
	texts := shortTexts("a*?[]!-\\.", 2)
	for _, s := range texts {
		for _, middle := range texts {
			text := s + middle + s
			if !Match(Quote(s)+"*"+Quote(s), text, false) || !Match("*"+Quote(middle)+"*", text, false) {
				t.Fatalf("%q between two %q", middle, s)
			}
			if len(middle) == 1 != Match(Quote(s)+"?"+Quote(s), text, false) {
				t.Fatalf("one byte and %q between two %q", middle, s)
			}
		}
	}
}

// TestAgain asks twice, with other calls between: nothing is kept.
func TestAgain(t *testing.T) {
	r := rand.New(rand.NewPCG(12, 2))
	type answer struct {
		match, has   bool
		plain, quote string
	}
	ask := func(p, s string) answer { return answer{Match(p, s, true), Has(p), Plain(p), Quote(p)} }
	asked := map[[2]string]answer{}
	for range 3 {
		for range 2000 {
			p, s := someText(r, "a*?[]!-\\.", 5), someText(r, "a.", 3)
			now := ask(p, s)
			if was, ok := asked[[2]string{p, s}]; ok && was != now {
				t.Fatalf("%q and %q: %v, then %v", p, s, was, now)
			}
			asked[[2]string{p, s}] = now
		}
		for x, was := range asked {
			if now := ask(x[0], x[1]); now != was {
				t.Fatalf("%q: %v, then %v", x, was, now)
			}
		}
	}
}
