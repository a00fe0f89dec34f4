package tty_test

import (
	"math"
	"strings"
	"testing"

	"almoner/tty"
)

// The bounds of a current line, and of all that is unread.
const (
	longest = 256
	most    = 1024
)

// gone is what is shown for a byte that is removed.
const gone = "\x08\x20\x08"

// letters returns n bytes that may be typed, no neighbours the same.
func letters(n int) string {
	b := make([]byte, n)
	for i := range b {
		b[i] = byte('a' + i%26)
	}
	return string(b)
}

// typed returns a new terminal at which s was typed.
func typed(s string) *tty.Tty {
	x := tty.New()
	x.Type(s)
	return x
}

// quiet returns a terminal whose echo is off, at which s was typed then.
func quiet(s string) *tty.Tty {
	x := tty.New()
	x.Echo(false)
	x.Type(s)
	return x
}

// holding returns a terminal with so many queued bytes and then so many in the current line, which must fit.
func holding(t *testing.T, queued, line int) *tty.Tty {
	t.Helper()
	x := tty.New()
	for left := queued; left > 0; {
		n := min(left, 200)
		x.Type(letters(n-1) + "\n")
		left -= n
	}
	x.Type(letters(line))
	wantUnread(t, x, queued, line)
	return x
}

func wantScreen(t *testing.T, x *tty.Tty, s string) {
	t.Helper()
	if got := x.Screen(); got != s {
		t.Errorf("Screen: %q, not %q", got, s)
	}
}

func wantUnread(t *testing.T, x *tty.Tty, queued, line int) {
	t.Helper()
	if q, l := x.Unread(); q != queued || l != line {
		t.Errorf("Unread: %d, %d; not %d, %d", q, l, queued, line)
	}
}

func wantEchoes(t *testing.T, x *tty.Tty, on bool) {
	t.Helper()
	if got := x.Echoes(); got != on {
		t.Errorf("Echoes: %v, not %v", got, on)
	}
}

func wantRead(t *testing.T, x *tty.Tty, n int, s string) {
	t.Helper()
	if got, ok := x.Read(n); got != s || !ok {
		t.Errorf("Read(%d): %q, %v; not %q, true", n, got, ok, s)
	}
}

func wantNone(t *testing.T, x *tty.Tty, n int) {
	t.Helper()
	if got, ok := x.Read(n); got != "" || ok {
		t.Errorf("Read(%d): %q, %v; not nothing, false", n, got, ok)
	}
}

// wantLines reads everything that is queued, an end as an empty line.
func wantLines(t *testing.T, x *tty.Tty, lines ...string) {
	t.Helper()
	for _, s := range lines {
		wantRead(t, x, 2*most, s)
	}
	wantNone(t, x, 2*most)
}

// TestExamples takes the steps of the chapter's examples.
func TestExamples(t *testing.T) {
	x := typed("ab" + "\x08" + "c" + "\x0a")
	wantScreen(t, x, "ab\x08\x20\x08c\x0a")
	wantRead(t, x, 99, "ac\x0a")

	x = tty.New()
	x.Echo(false)
	x.Type("pw\x0a")
	wantScreen(t, x, "\x0a")
	wantRead(t, x, 99, "pw\x0a")

	wantRead(t, typed("\x04"), 99, "")
}

func TestNew(t *testing.T) {
	x := tty.New()
	if x == nil {
		t.Fatal("no terminal")
	}
	wantScreen(t, x, "")
	wantUnread(t, x, 0, 0)
	wantEchoes(t, x, true)
	wantNone(t, x, 1)
}

// TestApart changes one terminal and looks at others (R3).
func TestApart(t *testing.T) {
	a, b := tty.New(), tty.New()
	a.Type("one\nmore")
	wantScreen(t, b, "")
	wantUnread(t, b, 0, 0)
	b.Echo(false)
	b.Type("two\n")
	b.Write("told")
	wantEchoes(t, a, true)
	wantScreen(t, a, "one\nmore")
	wantUnread(t, a, 4, 4)
	wantLines(t, a, "one\n")
	b.Type("x")
	a.Clear()
	wantEchoes(t, b, false)
	wantUnread(t, b, 4, 1)
	wantScreen(t, b, "\ntold")
	wantLines(t, b, "two\n")
	wantScreen(t, tty.New(), "")
	wantEchoes(t, tty.New(), true)
}

// row is what a byte does to the current line `xy` or to an empty one.
type row struct {
	line, shown string
	queues      bool
	queued      string
}

// effect works out a row of the chapter's table.
func effect(b byte, line string, echo bool) row {
	r := row{line: line}
	switch b {
	case 10, 13:
		r = row{queues: true, queued: line + "\x0a"}
	case 4:
		r = row{queues: true, queued: line}
	case 8, 127:
		if line != "" {
			r = row{line: line[:len(line)-1], shown: gone}
		}
	case 21:
		r = row{shown: strings.Repeat(gone, len(line))}
	default:
		if b == 9 || b >= 32 && b < 127 {
			r = row{line: line + string([]byte{b}), shown: string([]byte{b})}
		}
	}
	if !echo {
		r.shown = ""
	}
	if b == 10 || b == 13 {
		r.shown = "\x0a"
	}
	return r
}

// TestTypeByte types every byte, with and without echo, where the current line is empty or not.
func TestTypeByte(t *testing.T) {
	for _, line := range []string{"", "x", "xy", "\t ~"} {
		for _, echo := range []bool{true, false} {
			for b := range 256 {
				x := tty.New()
				x.Echo(echo)
				x.Type(line)
				before := x.Screen()
				x.Type(string([]byte{byte(b)}))
				r := effect(byte(b), line, echo)
				wantScreen(t, x, before+r.shown)
				queued := 0
				if r.queues {
					queued = max(1, len(r.queued))
				}
				wantUnread(t, x, queued, len(r.line))
				wantEchoes(t, x, echo)
				if r.queues {
					wantRead(t, x, most, r.queued)
				}
				wantNone(t, x, most)
				x.Type("\n") // it tells the current line
				wantLines(t, x, r.line+"\n")
				if t.Failed() {
					t.Fatalf("byte %d, current line %q, echo %v", b, line, echo)
				}
			}
		}
	}
}

// TestTypeLines types lines of several bytes, and what is to be ignored among them.
func TestTypeLines(t *testing.T) {
	tests := []struct {
		keys, shown string
		lines       []string
		line        int
	}{
		{"", "", nil, 0},
		{"ab", "ab", nil, 2},
		{"ab\n", "ab\n", []string{"ab\n"}, 0},
		{"ab\r", "ab\n", []string{"ab\n"}, 0},
		{"ab\r\n", "ab\n\n", []string{"ab\n", "\n"}, 0},
		{"\n\n\r\r", "\n\n\n\n", []string{"\n", "\n", "\n", "\n"}, 0},
		{"one\ntwo\nthr", "one\ntwo\nthr", []string{"one\n", "two\n"}, 3},
		{"ab\x04", "ab", []string{"ab"}, 0},
		{"ab\x04\x04", "ab", []string{"ab", ""}, 0},
		{"ab\x04\n", "ab\n", []string{"ab", "\n"}, 0},
		{"ab\x04cd\n", "abcd\n", []string{"ab", "cd\n"}, 0},
		{"ab\n\x04cd", "ab\ncd", []string{"ab\n", ""}, 2},
		{"\x04\x04\x04", "", []string{"", "", ""}, 0},
		{"\x04ab\n", "ab\n", []string{"", "ab\n"}, 0},
		{"ab\x08", "ab" + gone, nil, 1},
		{"ab\x7f\x08c\n", "ab" + gone + gone + "c\n", []string{"c\n"}, 0},
		{"ab\x08\x08\x08\x7f\n", "ab" + gone + gone + "\n", []string{"\n"}, 0},
		{"ab\x08\x08\x04", "ab" + gone + gone, []string{""}, 0},
		{"ab\n\x08\x7f\x15c\n", "ab\nc\n", []string{"ab\n", "c\n"}, 0}, // what is queued is not removed
		{"ab\x04\x08\x7f\x15c\n", "abc\n", []string{"ab", "c\n"}, 0},
		{"abc\x15d\n", "abc" + gone + gone + gone + "d\n", []string{"d\n"}, 0},
		{"abc\x15\x15\x08\x04", "abc" + gone + gone + gone, []string{""}, 0},
		{"a\tb\x08\x08\n", "a\tb" + gone + gone + "\n", []string{"a\n"}, 0},
		{" a ~\n", " a ~\n", []string{" a ~\n"}, 0},
		{"a\x00b\x01\x02\x03\x05\x06\x07c\n", "abc\n", []string{"abc\n"}, 0},
		{"a\x0b\x0c\x0e\x1bb\x1f\x14\x16\n", "ab\n", []string{"ab\n"}, 0},
		{"\u00e9a\u20acb\xff\x80\xfe\n", "ab\n", []string{"ab\n"}, 0}, // bytes, not runes
		{"%s\\n`$\n", "%s\\n`$\n", []string{"%s\\n`$\n"}, 0},
	}
	for _, c := range tests {
		queued := 0
		for _, s := range c.lines {
			queued += max(1, len(s))
		}
		whole, pieces := typed(c.keys), tty.New()
		for i := range len(c.keys) {
			pieces.Type(c.keys[i : i+1])
		}
		for _, x := range []*tty.Tty{whole, pieces} {
			wantScreen(t, x, c.shown)
			wantUnread(t, x, queued, c.line)
			wantLines(t, x, c.lines...)
			wantUnread(t, x, 0, c.line)
		}
		still := quiet(c.keys)
		wantScreen(t, still, strings.Repeat("\n", strings.Count(c.shown, "\n")))
		wantUnread(t, still, queued, c.line)
		wantLines(t, still, c.lines...)
		if t.Failed() {
			t.Fatalf("keys %q", c.keys)
		}
	}
}

// TestTypeErase removes any number of bytes from a line of any length.
func TestTypeErase(t *testing.T) {
	for n := range 40 {
		for k := range 42 {
			for _, key := range []string{"\x08", "\x7f"} {
				left := max(0, n-k)
				x := typed(letters(n) + strings.Repeat(key, k))
				wantScreen(t, x, letters(n)+strings.Repeat(gone, n-left))
				wantUnread(t, x, 0, left)
				x.Type("\n")
				wantLines(t, x, letters(left)+"\n")
			}
		}
	}
}

// TestTypeWipe removes a whole line of any length.
func TestTypeWipe(t *testing.T) {
	for n := range longest + 1 {
		x := typed(letters(n) + "\x15")
		wantScreen(t, x, letters(n)+strings.Repeat(gone, n))
		wantUnread(t, x, 0, 0)
		x.Type("z\n")
		wantLines(t, x, "z\n")
		x = quiet(letters(n) + "\x15")
		wantScreen(t, x, "")
		wantUnread(t, x, 0, 0)
		x.Type("z\x04")
		wantLines(t, x, "z")
	}
}

// TestTypeLong types beyond the longest current line.
func TestTypeLong(t *testing.T) {
	for _, n := range []int{254, 255, 256, 257, 258, 300, 511, 512, 513, 5000} {
		fits := min(n, longest)
		x := typed(letters(n))
		wantScreen(t, x, letters(fits))
		wantUnread(t, x, 0, fits)
		x.Type("\n")
		wantScreen(t, x, letters(fits)+"\n")
		wantUnread(t, x, fits+1, 0)
		wantLines(t, x, letters(fits)+"\n")

		x = quiet(letters(n))
		wantUnread(t, x, 0, fits)
		x.Type("\x04")
		wantScreen(t, x, "")
		wantLines(t, x, letters(fits))
	}
}

// TestTypeLongKeys types each byte where the current line is as long as it may be.
func TestTypeLongKeys(t *testing.T) {
	full := letters(longest)
	for b := range 256 {
		key := string([]byte{byte(b)})
		x := typed(full + key)
		switch b {
		case 10, 13:
			wantScreen(t, x, full+"\n")
			wantLines(t, x, full+"\n")
		case 4:
			wantScreen(t, x, full)
			wantLines(t, x, full)
		case 8, 127:
			wantScreen(t, x, full+gone)
			wantUnread(t, x, 0, longest-1)
			x.Type("\t ")
			wantScreen(t, x, full+gone+"\t")
			wantUnread(t, x, 0, longest)
			x.Type("\n")
			wantLines(t, x, full[:longest-1]+"\t\n")
		case 21:
			wantUnread(t, x, 0, 0)
		default:
			wantScreen(t, x, full)
			wantUnread(t, x, 0, longest)
		}
		if t.Failed() {
			t.Fatalf("byte %d", b)
		}
	}
}

// TestTypeLongAgain types beyond a long line behind others: the bound is the current line's own.
func TestTypeLongAgain(t *testing.T) {
	x := typed(letters(300) + "\n" + letters(300) + "\x04" + letters(300))
	wantUnread(t, x, 2*longest+1, longest)
	wantScreen(t, x, letters(longest)+"\n"+letters(longest)+letters(longest))
	wantLines(t, x, letters(longest)+"\n", letters(longest))
	wantUnread(t, x, 0, longest)
}

// TestTypeFull types each byte where as many bytes are unread as may be.
func TestTypeFull(t *testing.T) {
	for _, line := range []int{0, 1, 2, 100, 255, 256} {
		for _, echo := range []bool{true, false} {
			for b := range 256 {
				x := tty.New()
				x.Echo(echo)
				x.Type(strings.Repeat("abc\n", (most-line)/4) + strings.Repeat("\n", (most-line)%4) + letters(line))
				wantUnread(t, x, most-line, line)
				before := x.Screen()
				x.Type(string([]byte{byte(b)}))
				erased := 0
				switch {
				case b == 4 && line > 0: // its bytes are counted already
					wantUnread(t, x, most, 0)
				case b == 8 || b == 127:
					erased = min(1, line)
					wantUnread(t, x, most-line, line-erased)
				case b == 21:
					erased = line
					wantUnread(t, x, most-line, 0)
				default:
					wantUnread(t, x, most-line, line)
				}
				if !echo {
					erased = 0
				}
				wantScreen(t, x, before+strings.Repeat(gone, erased))
				if t.Failed() {
					t.Fatalf("byte %d, current line of %d bytes, echo %v", b, line, echo)
				}
			}
		}
	}
}

// TestTypeNearlyFull types where one byte is left.
func TestTypeNearlyFull(t *testing.T) {
	for _, line := range []int{0, 1, 2, 100, 255} {
		for _, key := range []string{"\n", "\r", "x", "\t"} {
			x := holding(t, most-1-line, line)
			before := x.Screen()
			x.Type(key)
			shown := key
			if key == "\r" {
				shown = "\n"
			}
			wantScreen(t, x, before+shown)
			x.Type(key + "\n\ry") // now nothing fits
			wantScreen(t, x, before+shown)
			if shown == "\n" {
				wantUnread(t, x, most, 0)
			} else {
				wantUnread(t, x, most-1-line, line+1)
			}
		}
		x := holding(t, most-1-line, line)
		before := x.Screen()
		x.Type("\x04") // it takes the byte for an end, or none for the line
		if line == 0 {
			wantUnread(t, x, most, 0)
		} else {
			wantUnread(t, x, most-1, 0)
		}
		x.Type("\x04\x04\x04")
		wantUnread(t, x, most, 0)
		wantScreen(t, x, before)
	}
}

// TestTypeEnds types ends until no more fit.
func TestTypeEnds(t *testing.T) {
	for n := range most + 3 {
		x := typed(strings.Repeat("\x04", n))
		wantUnread(t, x, min(n, most), 0)
		wantScreen(t, x, "")
	}
	x := typed(strings.Repeat("\x04", most+5))
	wantLines(t, x, make([]string, most)...)
	wantUnread(t, x, 0, 0)
}

// TestTypeRoom makes room where nothing fitted: what was ignored is not there, what is typed then is.
func TestTypeRoom(t *testing.T) {
	fill := strings.Repeat(letters(199)+"\n", 5) + letters(24)
	lines := strings.SplitAfter(fill, "\n")[:5]

	x := typed(fill + "\x04\nxyz\x04")
	wantUnread(t, x, most, 0)
	wantLines(t, x, append(append([]string{}, lines...), letters(24))...)
	x.Type("new\n")
	wantLines(t, x, "new\n")

	x = typed(fill + "\nxyz")
	x.Type("\x08!?\n") // one byte is left: the mark takes it
	wantScreen(t, x, fill+gone+"!")
	wantUnread(t, x, 1000, 24)
	x.Type("\x08\n.")
	wantScreen(t, x, fill+gone+"!"+gone+"\n")
	wantUnread(t, x, most, 0)
	wantLines(t, x, append(append([]string{}, lines...), letters(23)+"\n")...)

	x = typed(fill + "xyz")
	wantRead(t, x, 3, "abc") // a piece of a line makes room, too
	x.Type("123456")
	wantUnread(t, x, 997, 27)
	wantRead(t, x, most, lines[0][3:])
	x.Type("\n")
	wantLines(t, x, lines[1], lines[2], lines[3], lines[4], letters(24)+"123\n")

	x = typed(strings.Repeat("\x04", most) + "a")
	wantRead(t, x, 1, "")
	x.Type("bc\n")
	wantUnread(t, x, most-1, 1)
	wantScreen(t, x, "b")
	x.Type("\x04\x04") // the line is counted already, but an end behind it has no room
	wantUnread(t, x, most, 0)
	wantLines(t, x, append(make([]string, most-1), "b")...)
	wantScreen(t, x, "b")
}

// TestTypeMany types many lines that are read at once: nothing of them is counted any more.
func TestTypeMany(t *testing.T) {
	x := tty.New()
	want := ""
	for i := range 3000 {
		s := letters(i%258) + "\n"
		x.Type(s)
		s = letters(min(i%258, longest)) + "\n"
		want += s
		wantLines(t, x, s)
		x.Type("\x04")
		wantLines(t, x, "")
		wantUnread(t, x, 0, 0)
	}
	wantScreen(t, x, want)
}

// TestRead reads lines in pieces of every size.
func TestRead(t *testing.T) {
	for _, line := range []string{"\n", "a\n", "abc\n", letters(20) + "\n", letters(longest) + "\n"} {
		for _, n := range []int{1, 2, 3, 4, 5, 19, 20, 21, 22, 255, 256, 257, 258, 1 << 20, 1 << 40, math.MaxInt} {
			x := typed(line + "next\n" + "current")
			before := x.Screen()
			for left := line; left != ""; {
				wantUnread(t, x, len(left)+5, 7)
				k := min(n, len(left))
				wantRead(t, x, n, left[:k])
				left = left[k:]
			}
			wantUnread(t, x, 5, 7)
			wantRead(t, x, 9, "next\n") // never two lines at once
			wantUnread(t, x, 0, 7)
			wantNone(t, x, n)
			wantUnread(t, x, 0, 7)
			wantScreen(t, x, before)
			wantEchoes(t, x, true)
		}
	}
}

// TestReadCut reads lines that were queued without a line feed.
func TestReadCut(t *testing.T) {
	x := typed("abcd\x04ef\n\x04gh\x04\x04ij")
	wantUnread(t, x, 4+3+1+2+1, 2)
	wantRead(t, x, 3, "abc")
	wantUnread(t, x, 8, 2)
	wantRead(t, x, 3, "d")
	wantUnread(t, x, 7, 2)
	wantRead(t, x, 2, "ef")
	wantRead(t, x, 2, "\n")
	wantUnread(t, x, 4, 2)
	wantRead(t, x, 1, "")
	wantUnread(t, x, 3, 2)
	wantRead(t, x, 2, "gh") // the line is removed: what comes next is the end
	wantUnread(t, x, 1, 2)
	wantRead(t, x, 5, "")
	wantUnread(t, x, 0, 2)
	wantNone(t, x, 5)
	x.Type("\x04")
	wantRead(t, x, 1, "i")
	wantRead(t, x, 1, "j")
	wantNone(t, x, 1)
}

// TestReadEnd reads ends, whatever is asked for.
func TestReadEnd(t *testing.T) {
	for _, n := range []int{1, 2, 256, 5000, math.MaxInt} {
		x := typed("\x04\x04a\n\x04")
		for i, s := range []string{"", "", "a\n", ""} {
			if s == "a\n" && n == 1 {
				wantRead(t, x, 1, "a")
				s = "\n"
			}
			wantRead(t, x, n, s)
			wantUnread(t, x, []int{4, 3, 1, 0}[i], 0)
		}
		wantNone(t, x, n)
	}
}

// TestReadNone reads less than 1 byte: nothing is removed, not an end either.
func TestReadNone(t *testing.T) {
	for _, n := range []int{0, -1, -2, -256, -1 << 40, math.MinInt, math.MinInt + 1} {
		for _, s := range []string{"", "a\n", "\x04", "\n", "b\x04", "\x04\x04", "cur", "a\ncur"} {
			x, other := typed(s), typed(s)
			wantNone(t, x, n)
			queued, line := other.Unread()
			wantUnread(t, x, queued, line)
			wantScreen(t, x, other.Screen())
			for range 3 {
				want, ok := other.Read(9)
				if got, gotOk := x.Read(9); got != want || gotOk != ok {
					t.Errorf("%q behind Read(%d): %q, %v; not %q, %v", s, n, got, gotOk, want, ok)
				}
			}
		}
	}
}

// TestReadCurrent reads where only a current line is: it can't be read, and stays.
func TestReadCurrent(t *testing.T) {
	x := typed("abc")
	wantNone(t, x, 1)
	wantNone(t, x, most)
	wantUnread(t, x, 0, 3)
	x.Type("\x08d\n")
	wantLines(t, x, "abd\n")
}

// TestReadKept keeps what was read and shown while others are typed (R1).
func TestReadKept(t *testing.T) {
	x := typed(letters(100) + "\n" + letters(50))
	s, _ := x.Read(60)
	rest, _ := x.Read(60)
	screen := x.Screen()
	for range 20 {
		x.Type("\x15" + strings.Repeat("-", 200) + "\n")
		x.Read(most)
	}
	x.Clear()
	if s != letters(60) || rest != letters(100)[60:]+"\n" || screen != letters(100)+"\n"+letters(50) {
		t.Errorf("what was read or shown has become %q, %q, %q", s, rest, screen)
	}
}

// TestWrite shows every byte as it is, whatever the echo, and nothing else changes.
func TestWrite(t *testing.T) {
	all := ""
	for b := range 256 {
		all += string([]byte{byte(b)})
	}
	for _, echo := range []bool{true, false} {
		for _, s := range []string{"", "a", "\n", "\x08", "\x04\x15\x7f\r", "two\nlines\n", "\u00e9\xff", all, letters(5000)} {
			x := tty.New()
			x.Echo(echo)
			x.Type("q\n\x04cur")
			before := x.Screen()
			x.Write(s)
			wantScreen(t, x, before+s)
			wantUnread(t, x, 3, 3)
			wantEchoes(t, x, echo)
			x.Write("!")
			x.Write(s)
			wantScreen(t, x, before+s+"!"+s)
			x.Type("\n")
			wantLines(t, x, "q\n", "", "cur\n")
		}
	}
}

// TestWriteAmong shows what is typed and written in its order.
func TestWriteAmong(t *testing.T) {
	x := tty.New()
	x.Write("login: ")
	x.Type("an")
	x.Write("<late>")
	x.Type("n\x08n\n")
	x.Write("password: ")
	x.Echo(false)
	x.Type("se\x08cret\n")
	x.Echo(true)
	x.Write("$ ")
	x.Type("ls")
	wantScreen(t, x, "login: an<late>n"+gone+"n\npassword: \n$ ls")
}

// TestEcho turns the echo from one to the other: what is unread is discarded if that changes it.
func TestEcho(t *testing.T) {
	for _, was := range []bool{true, false} {
		for _, on := range []bool{true, false} {
			for _, s := range []string{"", "a", "a\n", "\x04", "\n\n", "a\n\x04b\x04cde", letters(longest) + "\n" + letters(longest)} {
				x := tty.New()
				x.Echo(was)
				x.Type(s)
				before := x.Screen()
				queued, line := x.Unread()
				x.Echo(on)
				wantEchoes(t, x, on)
				wantScreen(t, x, before)
				if was == on {
					wantUnread(t, x, queued, line)
					continue
				}
				wantUnread(t, x, 0, 0)
				wantNone(t, x, most)
				x.Type("\x08\x15z\n")
				wantLines(t, x, "z\n")
				if on {
					wantScreen(t, x, before+"z\n")
				} else {
					wantScreen(t, x, before+"\n")
				}
			}
		}
	}
}

// TestEchoSame turns the echo to what it is: all stays.
func TestEchoSame(t *testing.T) {
	for _, on := range []bool{true, false} {
		x := tty.New()
		x.Echo(on)
		x.Type("ab\ncd\x04\x04ef")
		wantRead(t, x, 1, "a")
		x.Echo(on)
		x.Echo(on)
		wantUnread(t, x, 5, 2)
		x.Type("g\n")
		wantLines(t, x, "b\n", "cd", "", "efg\n")
	}
}

// TestEchoBack turns the echo off and on again: nothing is left of what was typed ahead or between.
func TestEchoBack(t *testing.T) {
	for _, between := range []string{"", "pw\n", "pw", "pw\x04", "\x04"} {
		x := typed("ahead\nmore")
		x.Echo(false)
		x.Type(between)
		x.Echo(true)
		wantUnread(t, x, 0, 0)
		wantScreen(t, x, "ahead\nmore"+strings.Repeat("\n", strings.Count(between, "\n")))
		x.Type("\n")
		wantLines(t, x, "\n")
	}
}

// TestClear discards what is unread, whatever the echo is.
func TestClear(t *testing.T) {
	for _, echo := range []bool{true, false} {
		for _, s := range []string{"", "a", "a\n", "\x04", "a\n\x04b\x04cde", letters(longest) + "\n" + letters(longest)} {
			x := tty.New()
			x.Echo(echo)
			x.Type(s)
			before := x.Screen()
			x.Clear()
			wantEchoes(t, x, true)
			wantUnread(t, x, 0, 0)
			wantScreen(t, x, before) // the screen stays
			wantNone(t, x, most)
			x.Clear()
			wantEchoes(t, x, true)
			x.Type("\x08\x15z\n")
			wantScreen(t, x, before+"z\n")
			wantLines(t, x, "z\n")
		}
	}
}

// TestDiscardRoom fills a terminal behind what was discarded: all of the room is there again.
func TestDiscardRoom(t *testing.T) {
	discards := []func(x *tty.Tty){
		func(x *tty.Tty) { x.Clear() },
		func(x *tty.Tty) { x.Echo(false) },
		func(x *tty.Tty) { x.Echo(false); x.Type("pw\nmore"); x.Clear() },
		func(x *tty.Tty) { x.Echo(false); x.Type("\x04\x04" + letters(300)); x.Echo(true) },
	}
	for i, discard := range discards {
		x := holding(t, most-100, 100)
		wantRead(t, x, 7, letters(7))
		discard(x)
		wantUnread(t, x, 0, 0)
		x.Type(letters(longest + 1))
		wantUnread(t, x, 0, longest)
		x.Type("\x15" + strings.Repeat("\n", most) + "\n")
		wantUnread(t, x, most, 0)
		if t.Failed() {
			t.Fatalf("discarded in way %d", i)
		}
	}
}

func TestScreen(t *testing.T) {
	x := tty.New()
	want := ""
	for i := range 500 {
		s := letters(i % 60)
		x.Write(s)
		want += s
		wantScreen(t, x, want)
		wantScreen(t, x, want) // asking changes nothing
		x.Type(s + "\x15\x08\x01")
		want += s + strings.Repeat(gone, len(s))
		wantScreen(t, x, want)
	}
	x.Echo(false)
	x.Clear()
	wantScreen(t, x, want)
}

func TestUnread(t *testing.T) {
	for queued := 0; queued <= most; queued += 3 {
		for _, line := range []int{0, 1, 2, 77, 255, 256} {
			if queued+line > most {
				continue
			}
			x := holding(t, queued, line)
			wantUnread(t, x, queued, line)
		}
	}
}

func TestEchoes(t *testing.T) {
	x := tty.New()
	for _, on := range []bool{true, false, false, true, true, false} {
		x.Echo(on)
		wantEchoes(t, x, on)
		x.Type("a\n\x04b")
		x.Write("c")
		x.Read(1)
		wantEchoes(t, x, on)
	}
	x.Clear()
	wantEchoes(t, x, true)
}
