package mode

import (
	"fmt"
	"math"
	"regexp"
	"strings"
	"testing"

	"almoner/api"
)

// allModes are the modes one by one, found without Right.
func allModes() []int {
	var modes []int
	for _, high := range []int{0, 0o1000, 0o4000, 0o5000} {
		for rights := range 0o1000 {
			modes = append(modes, high+rights)
		}
	}
	return modes
}

// wrongModes are some numbers that are not modes.
func wrongModes() []int {
	return []int{-1, -0o777, -0o5777, 0o2000, 0o2777, 0o3000, 0o6000, 0o6755, 0o7777, 0o10000, 0o10644, 0o100000, 1 << 32, math.MaxInt, math.MinInt}
}

func TestRight(t *testing.T) {
	want := map[int]bool{}
	for _, m := range allModes() {
		want[m] = true
	}
	for m := -0o20000; m <= 0o20000; m++ {
		if got := Right(m); got != want[m] {
			t.Errorf("Right(%o) = %v", m, got)
		}
	}
	for _, m := range wrongModes() {
		if Right(m) {
			t.Errorf("Right(%o) = true", m)
		}
	}
}

func TestMay(t *testing.T) {
	const r, w, x = api.Read, api.Write, api.Search
	for _, c := range []struct {
		mode, owner, group int
		dir                bool
		uid, gid, want     int
		may                bool
	}{
		{0o640, 5, 7, false, 5, 7, r + w, true},
		{0o640, 5, 7, false, 5, 7, r + w + x, false},
		{0o640, 5, 7, false, 6, 7, r, true},
		{0o640, 5, 7, false, 6, 7, r + w, false},
		{0o640, 5, 7, false, 6, 8, r, false},
		{0o077, 5, 7, false, 5, 7, r, false}, // the owner's rights count alone
		{0o707, 5, 7, true, 6, 7, x, false},  // so do the group's
		{0o007, 5, 7, true, 6, 8, r + w + x, true},
		{0o4700, 5, 7, false, 6, 8, r, false}, // set-user-id is no right of others
		{0o1770, 5, 7, true, 6, 8, x, false},  // nor is sticky
		{0o000, 5, 7, false, 0, 0, r + w, true},
		{0o000, 0, 0, false, 0, 0, r + w, true},
		{0o666, 5, 7, false, 0, 0, x, false},
		{0o666, 5, 7, false, 0, 0, r + w + x, false},
		{0o5666, 5, 7, false, 0, 0, x, false},
		{0o100, 5, 7, false, 0, 0, x, true},
		{0o010, 5, 7, false, 0, 0, r + w + x, true},
		{0o001, 5, 7, false, 0, 0, x, true},
		{0o000, 5, 7, true, 0, 0, r + w + x, true},
		{0o077, 0, 7, true, 0, 7, r, true},
		{0o070, 5, 0, false, 6, 0, r + w, true}, // group 0 is a group as any other
		{0o007, 5, 0, false, 6, 0, r, false},
		{0o700, -5, 7, false, -5, 8, r, true},
	} {
		if got := May(c.mode, c.owner, c.group, c.dir, c.uid, c.gid, c.want); got != c.may {
			t.Errorf("%+v: got %v", c, got)
		}
	}
}

// TestMayAll asks of every mode, for one who is owner, in the group or neither, whether the text of the rights says the same.
func TestMayAll(t *testing.T) {
	for _, m := range allModes() {
		digits := fmt.Sprintf("%04o", m)
		for place, who := range [][2]int{{5, 7}, {6, 7}, {6, 8}} {
			granted := int(digits[1+place] - '0')
			for want := 1; want <= 7; want++ {
				for _, dir := range []bool{false, true} {
					if got := May(m, 5, 7, dir, who[0], who[1], want); got != (granted|want == granted) {
						t.Fatalf("May(%o, 5, 7, %v, %v, %d) = %v", m, dir, who, want, got)
					}
				}
			}
		}
	}
}

func TestMayWrong(t *testing.T) {
	for _, uid := range []int{0, 5} {
		for _, dir := range []bool{false, true} {
			for _, m := range wrongModes() {
				if May(m, uid, 0, dir, uid, 0, api.Read) {
					t.Errorf("May of mode %o is true", m)
				}
			}
			for _, want := range []int{0, -1, 8, 9, 12, 15, -7, math.MinInt, math.MaxInt} {
				if May(0o777, uid, 0, dir, uid, 0, want) {
					t.Errorf("May of want %d is true", want)
				}
			}
		}
	}
}

func TestText(t *testing.T) {
	for _, c := range []struct {
		kind, mode int
		text       string
	}{
		{api.KindFile, 0o4755, "-rwsr-xr-x"},
		{api.KindDir, 0o1777, "drwxrwxrwt"},
		{api.KindTty, 0o620, "crw--w----"},
		{api.KindFile, 0, "----------"},
		{api.KindFile, 0o4655, "-rwSr-xr-x"},
		{api.KindFile, 0o4000, "---S------"},
		{api.KindDir, 0o1776, "drwxrwxrwT"},
		{api.KindDir, 0o1000, "d--------T"},
		{api.KindDir, 0o5777, "drwsrwxrwt"},
		{api.KindDir, 0o5666, "drwSrw-rwT"},
		{api.KindFile, 0o421, "-r---w---x"},
		{api.KindFile, 0o124, "---x-w-r--"},
		{-1, 0o644, ""},
		{3, 0o644, ""},
		{math.MaxInt, 0, ""},
		{math.MinInt, 0, ""},
	} {
		if got := Text(c.kind, c.mode); got != c.text {
			t.Errorf("Text(%d, %o) = %q, not %q", c.kind, c.mode, got, c.text)
		}
	}
	for kind := range 3 {
		for _, m := range wrongModes() {
			if got := Text(kind, m); got != "" {
				t.Errorf("Text(%d, %o) = %q", kind, m, got)
			}
		}
	}
}

func TestTextDeterminesMode(t *testing.T) {
	seen := map[string]int{}
	for _, m := range allModes() {
		text := Text(api.KindFile, m)
		if other, ok := seen[text]; ok || len(text) != 10 {
			t.Errorf("Text of %o and %o: %q", m, other, text)
		}
		seen[text] = m
		for kind, letter := range []string{"-", "d", "c"} {
			if got := Text(kind, m); got != letter+text[1:] {
				t.Errorf("Text(%d, %o) = %q", kind, m, got)
			}
		}
	}
}

func TestOctal(t *testing.T) {
	for _, m := range allModes() {
		for width := 1; width <= 5; width++ {
			s := fmt.Sprintf("%0*o", width, m)
			if got, ok := Octal(s); !ok || got != m {
				t.Fatalf("Octal(%q) = %o, %v", s, got, ok)
			}
		}
	}
}

func TestOctalWrong(t *testing.T) {
	for _, s := range []string{
		"", "8", "9", "78", "87", "2000", "3777", "6000", "7777", "10000", "10644", "77777",
		"000000", "000644", "0000000", "100000", "-1", "+7", " 7", "7 ", "7\n", "0o7", "0x7", "7_7", "a", "/", ":", "7\x00", "\xff", "\u0667",
		"1777777777777777777777", strings.Repeat("0", 1000),
	} {
		if got, ok := Octal(s); ok || got != 0 {
			t.Errorf("Octal(%q) = %o, %v", s, got, ok)
		}
	}
}

func TestChange(t *testing.T) {
	for _, c := range []struct {
		s    string
		mode int
		dir  bool
		want int
	}{
		{"u+s,go-w", 0o777, false, 0o4755},
		{"a=rX", 0o100, false, 0o555},
		{"=", 0o5777, false, 0},
		{"+", 0o644, false, 0o644},
		{"-", 0o5777, false, 0o5777},
		{"u=", 0o5777, false, 0o1077},
		{"g=", 0o5777, false, 0o5707},
		{"o=", 0o5777, false, 0o4770},
		{"a=", 0o5777, false, 0},
		{"ug=", 0o5777, false, 0o1007},
		{"+x", 0, false, 0o111}, // none means ugo
		{"+st", 0, false, 0o5000},
		{"-st", 0o5777, false, 0o777},
		{"u+t", 0, false, 0},
		{"g+st", 0, false, 0},
		{"o+s", 0, false, 0},
		{"o+t", 0, false, 0o1000},
		{"a+st", 0, false, 0o5000},
		{"u-t", 0o5777, false, 0o5777},
		{"o-s", 0o5777, false, 0o5777},
		{"u=t", 0o5777, false, 0o1077},
		{"u=s", 0o777, false, 0o4077},
		{"uuu+rr", 0, false, 0o400},
		{"augo+r", 0, false, 0o444},
		{"u+r-w+x", 0o200, false, 0o500}, // actions from left to right
		{"u+w-w", 0, false, 0},
		{"u-w+w", 0o200, false, 0o200},
		{"u=rw=x", 0, false, 0o100},
		{"u+=-", 0o777, false, 0o077},
		{"u+rwx,u-w,g=x", 0, false, 0o510}, // clauses from left to right
		{"u-w,u+w", 0, false, 0o200},
		{"+X", 0o644, false, 0o644},
		{"+X", 0o644, true, 0o755},
		{"+X", 0o645, false, 0o755},
		{"+X", 0o654, false, 0o755},
		{"+X", 0o744, false, 0o755},
		{"+X", 0o5644, false, 0o5644}, // set-user-id and sticky are no search bits
		{"u+X", 0o001, false, 0o101},
		{"-X", 0o111, false, 0},
		{"-X", 0o666, true, 0o666},
		{"-X", 0o777, true, 0o666},
		{"u+x,g+X", 0, false, 0o110}, // the mode at this point, not the first one
		{"u+x+X", 0, false, 0o100},
		{"g+X,u+x", 0, false, 0o100},
		{"a-x,u+X", 0o777, false, 0o666},
		{"a-x,u+X", 0o777, true, 0o766},
		{"u=rX", 0o100, false, 0o500}, // X asks ahead of the clearing
		{"u=,u=X", 0o100, false, 0},
		{"u+Xx,g+X", 0, false, 0o110},
		{"644", 0o5777, false, 0o644},
		{"0", 0o5777, true, 0},
		{"05755", 0, false, 0o5755},
	} {
		if got, ok := Change(c.s, c.mode, c.dir); !ok || got != c.want {
			t.Errorf("Change(%q, %o, %v) = %o, %v, not %o", c.s, c.mode, c.dir, got, ok, c.want)
		}
	}
}

// TestChangeActions applies every action of one class and one letter to every mode.
func TestChangeActions(t *testing.T) {
	bits := map[string]int{
		"ur": 0o400, "uw": 0o200, "ux": 0o100, "us": 0o4000, "ut": 0,
		"gr": 0o040, "gw": 0o020, "gx": 0o010, "gs": 0, "gt": 0,
		"or": 0o004, "ow": 0o002, "ox": 0o001, "os": 0, "ot": 0o1000,
	}
	cleared := map[string]int{"u": 0o4700, "g": 0o070, "o": 0o1007}
	for key, bit := range bits {
		class, letter := key[:1], key[1:]
		for _, m := range allModes() {
			for sign, want := range map[string]int{"+": m | bit, "-": m &^ bit, "=": m&^cleared[class] | bit} {
				if got, ok := Change(class+sign+letter, m, false); !ok || got != want {
					t.Fatalf("Change(%q, %o) = %o, %v, not %o", class+sign+letter, m, got, ok, want)
				}
			}
		}
	}
}

func TestChangeWrong(t *testing.T) {
	for _, s := range []string{
		"", ",", "u", "a", "ugo", "r", "rwx", "ur", "u+r,", ",u+r", "u+r,,g+r", "u+r,g", "u+r,g+r,", "u+g", "u+rg", "u+r g+r", " u+r", "u+r ", "U+r", "u+R", "u*r", "u+r7",
		"7+r", "u+r,644", "644,u+r", "u=644", "2000", "6755", "8", "000644", "-7", "u+l", "u\x00+r", "\xff", "u+r\n",
	} {
		if got, ok := Change(s, 0o5777, true); ok || got != 0 {
			t.Errorf("Change(%q) = %o, %v", s, got, ok)
		}
	}
	for _, m := range wrongModes() {
		for _, s := range []string{"u+r", "=", "644", "u"} {
			if got, ok := Change(s, m, false); ok || got != 0 {
				t.Errorf("Change(%q, %o) = %o, %v", s, m, got, ok)
			}
		}
	}
}

// TestChangeForm holds every short text of the change's bytes against its grammar.
func TestChangeForm(t *testing.T) {
	const bytes = "ugoa+-=rwxXst,0n"
	clause := `[ugoa]*([-+=][rwxXst]*)+`
	form := regexp.MustCompile(`^(` + clause + `(,` + clause + `)*|0{1,5})$`)
	texts := []string{""}
	for range 4 {
		var longer []string
		for _, s := range texts {
			for i := range len(bytes) {
				longer = append(longer, s+bytes[i:i+1])
			}
		}
		for _, s := range longer {
			got, ok := Change(s, 0o5741, false)
			if ok != form.MatchString(s) || !Right(got) || !ok && got != 0 {
				t.Fatalf("Change(%q) = %o, %v", s, got, ok)
			}
		}
		texts = longer
	}
}

func TestChangeByOctal(t *testing.T) {
	for _, m := range allModes() {
		for _, dir := range []bool{false, true} {
			if got, ok := Change(fmt.Sprintf("%o", m), 0o1234, dir); !ok || got != m {
				t.Errorf("Change by %o = %o, %v", m, got, ok)
			}
		}
	}
}

func TestChangeTwice(t *testing.T) {
	for _, s := range []string{"=", "u=rw", "a=rX", "u=X", "g=X,o=X", "u=rws,g=r,o=t", "u=rwx=r", "go=X,u=", "=st", "o=rwt,o=x"} {
		for _, m := range allModes() {
			for _, dir := range []bool{false, true} {
				once, ok := Change(s, m, dir)
				twice, ok2 := Change(s, once, dir)
				if !ok || !ok2 || once != twice {
					t.Errorf("Change(%q, %o, %v) = %o, then %o", s, m, dir, once, twice)
				}
			}
		}
	}
}
