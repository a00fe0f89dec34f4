package pwfile

import (
	"fmt"
	"math"
	"reflect"
	"regexp"
	"slices"
	"strings"
	"testing"

	"almoner/api"
)

const (
	rootLine = "root::0:0:/:/bin/sh\n"
	annLine  = "ann:*:5:6:/user/ann:/bin/sh\n"
	bobLine  = "bob:0007$45b1e8ad6017cd28:65535:10:/user/bob/:/bin/ash\n"
)

func rootUser() api.User {
	return api.User{Home: "/", Name: "root", Shell: "/bin/sh"}
}

func annUser() api.User {
	return api.User{Group: 6, Home: "/user/ann", ID: 5, Name: "ann", Pass: "*", Shell: "/bin/sh"}
}

func bobUser() api.User {
	return api.User{Group: 10, Home: "/user/bob/", ID: 65535, Name: "bob", Pass: "0007$45b1e8ad6017cd28", Shell: "/bin/ash"}
}

// with is ann, but for what change alters.
func with(change func(*api.User)) api.User {
	user := annUser()
	change(&user)
	return user
}

func numbered(i int) string {
	return fmt.Sprintf("user%04d", i)
}

// manyUsers are valid users of which only the names differ.
func manyUsers(n int) []api.User {
	var l []api.User
	for i := range n {
		l = append(l, with(func(u *api.User) { u.Name = numbered(i) }))
	}
	return l
}

// longUser is a user whose line is the longest that there is.
func longUser(i int) api.User {
	place := strings.Repeat("/abcdefg", api.MaxPath/8)
	return api.User{Name: numbered(i), Pass: "beef$1e0a5de656ce333d", ID: 65535, Group: 65535, Home: place, Shell: place}
}

func checkParse(t *testing.T, text string, want []api.User) {
	t.Helper()
	got, n, e := Parse(text)
	if !slices.Equal(got, want) || n != 0 || e != api.OK {
		t.Errorf("Parse(%.300q) = %v, %d, %d, not %v", text, got, n, int(e), want)
	}
}

func checkWrong(t *testing.T, text string, line int, err api.Errno) {
	t.Helper()
	got, n, e := Parse(text)
	if len(got) != 0 || n != line || e != err {
		t.Errorf("Parse(%.300q) = %v, %d, %d, not %d, %d", text, got, n, int(e), line, int(err))
	}
}

// checkUser holds one user alone against what is said of it, in all three functions that judge users.
func checkUser(t *testing.T, user api.User, want bool) {
	t.Helper()
	line := fmt.Sprintf("%s:%s:%d:%d:%s:%s\n", user.Name, user.Pass, user.ID, user.Group, user.Home, user.Shell)
	l := []api.User{user}
	if got := Right(l); got != want {
		t.Errorf("Right(%.200q) = %v", line, got)
	}
	if got := Right([]api.User{rootUser(), user}); got != want {
		t.Errorf("Right of root and %.200q = %v", line, got)
	}
	if !want {
		if got := Print(l); got != "" {
			t.Errorf("Print of the wrong %.200q = %q", line, got)
		}
		if strings.Contains(user.Shell, "\n") { // the file has a whole line ahead of it, and another one
			return
		}
		checkWrong(t, line, 1, api.ErrForm)
		checkWrong(t, rootLine+line, 2, api.ErrForm)
		return
	}
	if got := Print(l); got != line {
		t.Errorf("Print = %q, not %q", got, line)
	}
	checkParse(t, line, l)
}

func TestRightNames(t *testing.T) {
	for _, name := range []string{"a", "z", "ann", "abcdefgh", "a1", "a0000000", "z9", "r00t", "aaaaaaaa"} {
		checkUser(t, with(func(u *api.User) { u.Name = name }), true)
	}
	for _, name := range []string{
		"", " ", "0", "1a", "9", "A", "Ann", "aNN", "annN", "abcdefghi", "abcdefgh0", "a b", " ann", "ann ", "a_b", "a-b", "a.b", "_a", "-", "*", "/", "a/b",
		"a:b", ":", "a\nb", "ann\n", "\nann", "\x00", "a\x00", "a\x7f", "\x80", "a\xff", "\u00e9", "a\u00e9", "a\u0661", "a\uff41", strings.Repeat("a", 3000),
	} {
		checkUser(t, with(func(u *api.User) { u.Name = name }), false)
	}
}

// TestRightNameBytes puts every byte into every place of names of every length.
func TestRightNameBytes(t *testing.T) {
	const letters, digits = "abcdefghijklmnopqrstuvwxyz", "0123456789"
	for size := 1; size <= 9; size++ {
		for place := range size {
			for b := range 256 {
				name := []byte("abcdefghi"[:size])
				name[place] = byte(b)
				right := strings.IndexByte(letters, byte(b)) >= 0 || place > 0 && strings.IndexByte(digits, byte(b)) >= 0
				want := right && size <= 8
				if got := Right([]api.User{with(func(u *api.User) { u.Name = string(name) })}); got != want {
					t.Errorf("Right of the name %q = %v", name, got)
				}
			}
		}
	}
}

func TestRightPasses(t *testing.T) {
	for _, pass := range []string{"", "*", "0007$45b1e8ad6017cd28", "0000$0000000000000000", "ffff$ffffffffffffffff"} {
		checkUser(t, with(func(u *api.User) { u.Pass = pass }), true)
	}
	for _, pass := range []string{
		"x", " ", "**", "* ", "0007$", "secret", "\n", ":", "0007$45b1e8ad6017cd2", "0007$45b1e8ad6017cd280", "0007$45B1E8AD6017CD28",
		"0007:45b1e8ad6017cd28", "0007$45b1e8ad6017cd2g", "0007$45b1e8ad6017cd28\n", strings.Repeat("0", 21), "\x00",
	} {
		checkUser(t, with(func(u *api.User) { u.Pass = pass }), false)
	}
}

func TestRightNumbers(t *testing.T) {
	for _, n := range []int{0, 1, 9, 10, 100, 255, 256, 32767, 32768, 65534, 65535} {
		checkUser(t, with(func(u *api.User) { u.ID = n }), true)
		checkUser(t, with(func(u *api.User) { u.Group = n }), true)
	}
	for _, n := range []int{-1, -5, 65536, 65537, 99999, 100000, -65535, -65536, 1 << 31, 1<<32 + 5, math.MaxInt, math.MinInt} {
		checkUser(t, with(func(u *api.User) { u.ID = n }), false)
		checkUser(t, with(func(u *api.User) { u.Group = n }), false)
	}
}

func TestRightPlaces(t *testing.T) {
	whole := strings.Repeat("/abcdefg", api.MaxPath/8)
	for _, place := range []string{
		"/", "//", "/a", "/a/", "/a//b", "/.", "/..", "/a/../b/.", "/a b", "/ ", "/*", "/\x80\xff", "/\u00e9", "/~$\\'\"", "/" + strings.Repeat("n", api.MaxName),
		whole, strings.Repeat("/", api.MaxPath),
	} {
		checkUser(t, with(func(u *api.User) { u.Home = place }), true)
		checkUser(t, with(func(u *api.User) { u.Shell = place }), true)
	}
	for _, place := range []string{
		"", "a", "a/b", ".", "..", "./a", "~", " /a", "/a:b", "/:", ":/", "/a:", "/a/:/b", "/a\n", "/\n", "/a\nb", "\n", "/\x00", "/a\x1f", "/\x7f", "/a\r", "/a\t",
		"/" + strings.Repeat("n", api.MaxName+1), "/a/" + strings.Repeat("n", api.MaxName+1) + "/b", whole + "/", whole + "h", strings.Repeat("/", api.MaxPath+1),
	} {
		checkUser(t, with(func(u *api.User) { u.Home = place }), false)
		checkUser(t, with(func(u *api.User) { u.Shell = place }), false)
	}
}

func TestRightLists(t *testing.T) {
	renamed := func(name string) api.User { return with(func(u *api.User) { u.Name = name }) }
	wrong := with(func(u *api.User) { u.ID = -1 })
	for _, c := range []struct {
		l    []api.User
		want bool
	}{
		{nil, true},
		{[]api.User{}, true},
		{[]api.User{rootUser()}, true},
		{[]api.User{rootUser(), annUser(), bobUser()}, true},
		{[]api.User{bobUser(), annUser(), rootUser()}, true}, // in any order
		{[]api.User{renamed("a"), renamed("b")}, true},       // the ids need not differ
		{[]api.User{renamed("a"), renamed("ab"), renamed("aa"), renamed("b")}, true},
		{manyUsers(7), true},
		{manyUsers(8), true},
		{manyUsers(9), false},
		{manyUsers(1000), false},
		{make([]api.User, 1<<16), false},
		{[]api.User{{}}, false},
		{[]api.User{annUser(), annUser()}, false},
		{[]api.User{renamed("a"), renamed("b"), renamed("a")}, false},
		{[]api.User{renamed("b"), renamed("a"), renamed("a")}, false},
		{[]api.User{annUser(), {Name: "ann", Home: "/", Shell: "/"}}, false}, // the name alone counts
		{append(manyUsers(7), renamed(numbered(0))), false},
		{append(manyUsers(7), renamed(numbered(6))), false},
		{[]api.User{wrong}, false},
		{[]api.User{wrong, rootUser()}, false},
		{[]api.User{rootUser(), wrong}, false},
		{[]api.User{rootUser(), wrong, bobUser()}, false},
		{append(manyUsers(7), wrong), false},
	} {
		if got := Right(c.l); got != c.want {
			t.Errorf("Right(%.300v) = %v", c.l, got)
		}
		if got := Print(c.l); (got != "") != (c.want && len(c.l) > 0) {
			t.Errorf("Print(%.300v) = %q", c.l, got)
		}
	}
}

func TestPrint(t *testing.T) {
	for _, c := range []struct {
		l    []api.User
		want string
	}{
		{nil, ""},
		{[]api.User{rootUser()}, rootLine},
		{[]api.User{annUser()}, annLine},
		{[]api.User{bobUser()}, bobLine},
		{[]api.User{rootUser(), annUser(), bobUser()}, rootLine + annLine + bobLine},
		{[]api.User{bobUser(), rootUser()}, bobLine + rootLine}, // the list's order
		{[]api.User{rootUser(), annUser(), annUser()}, ""},
		{[]api.User{rootUser(), {Name: "ann"}}, ""}, // nothing of the valid users, either
		{manyUsers(9), ""},
	} {
		if got := Print(c.l); got != c.want {
			t.Errorf("Print(%v) = %q, not %q", c.l, got, c.want)
		}
	}
}

func TestParse(t *testing.T) {
	checkParse(t, "", nil)
	checkParse(t, rootLine, []api.User{rootUser()})
	checkParse(t, annLine, []api.User{annUser()})
	checkParse(t, bobLine+annLine+rootLine, []api.User{bobUser(), annUser(), rootUser()})
	for n := range 9 {
		checkParse(t, Print(manyUsers(n)), manyUsers(n))
	}
	var long []api.User
	for i := range 8 {
		long = append(long, longUser(i))
	}
	checkParse(t, Print(long), long)
	if size := len(Print(long)); size != 8*301 {
		t.Errorf("the longest file has %d bytes", size)
	}
}

// wrongLines are no lines of valid users.
func wrongLines() []string {
	return []string{
		"\n", " \n", ":\n", ":::::\n", "::::::\n", "root\n", "#root::0:0:/:/bin/sh\n", " " + rootLine, "\x00" + rootLine, "\ufeff" + rootLine,
		"root::0:0:/:/bin/sh", "root::0:0:/:", "root", "x", " ", ":", "\r", "\x00", // without a line feed
		"root::0:0:/:/bin/sh\r\n", "root::0:0:/:/bin/sh\r", "root::0:0:/:/bin/sh\x00\n", "root::0:0:/:/bin/sh:\n", "root::0:0:/:/bin/sh:x\n",
		"root::0:0:/\n", "root::0:0:/:\n", "root:0:0:/:/bin/sh\n", "root::0:/:/bin/sh\n", "root:::0:0:/:/bin/sh\n", "root::0:0::/bin/sh\n", "::0:0:/:/bin/sh\n",
		"root::00:0:/:/bin/sh\n", "root::0:00:/:/bin/sh\n", "root::01:0:/:/bin/sh\n", "root::0:07:/:/bin/sh\n", "root::000000:0:/:/bin/sh\n",
		"root::+0:0:/:/bin/sh\n", "root::-0:0:/:/bin/sh\n", "root::0:+5:/:/bin/sh\n", "root::0:-5:/:/bin/sh\n", "root::-1:0:/:/bin/sh\n", "root::5:-0:/:/bin/sh\n",
		"root:: 0:0:/:/bin/sh\n", "root::0 :0:/:/bin/sh\n", "root::0: 0:/:/bin/sh\n", "root::0:0 :/:/bin/sh\n", "root::::/:/bin/sh\n", "root::0::/:/bin/sh\n", "root:::0:/:/bin/sh\n",
		"root::65536:0:/:/bin/sh\n", "root::0:65536:/:/bin/sh\n", "root::99999999999999999999:0:/:/bin/sh\n", "root::18446744073709551616:0:/:/bin/sh\n", "root::0:4294967296:/:/bin/sh\n",
		"root::0x0:0:/:/bin/sh\n", "root::0:0x10:/:/bin/sh\n", "root::1_0:0:/:/bin/sh\n", "root::0:1e3:/:/bin/sh\n", "root::1.0:0:/:/bin/sh\n", "root::a:0:/:/bin/sh\n", "root::0:*:/:/bin/sh\n", "root::\u0661:0:/:/bin/sh\n",
		"root:x:0:0:/:/bin/sh\n", "root: :0:0:/:/bin/sh\n", "Root::0:0:/:/bin/sh\n", "1root::0:0:/:/bin/sh\n", "abcdefghi::0:0:/:/bin/sh\n",
		"root::0:0:bin:/bin/sh\n", "root::0:0:/:sh\n", "root::0:0: /:/bin/sh\n", "root::0:0:/: /bin/sh\n", "root::0:0:/:/bin\t\n", "root::0:0:/\x7f:/bin/sh\n",
		strings.Repeat(":", api.MaxData-1) + "\n", strings.Repeat("a", api.MaxData), strings.Repeat("\n", api.MaxData), strings.Repeat("a", api.MaxData-1) + "\n",
	}
}

func TestParseForm(t *testing.T) {
	for _, line := range wrongLines() {
		checkWrong(t, line, 1, api.ErrForm)
		if len(line) > 1000 {
			continue
		}
		checkWrong(t, annLine+line, 2, api.ErrForm)
		checkWrong(t, Print(manyUsers(7))+line, 8, api.ErrForm)
		if strings.HasSuffix(line, "\n") {
			checkWrong(t, line+annLine, 1, api.ErrForm)
			checkWrong(t, annLine+line+annLine, 2, api.ErrForm)
		}
	}
	checkWrong(t, rootLine+annLine[:len(annLine)-1], 2, api.ErrForm)
	checkWrong(t, rootLine+"\n"+annLine, 2, api.ErrForm)
	checkWrong(t, rootLine+annLine+"\n", 3, api.ErrForm)
	checkWrong(t, "\n"+rootLine, 1, api.ErrForm)
}

// TestParseCut cuts a file behind every byte: only whole lines are right.
func TestParseCut(t *testing.T) {
	text := rootLine + annLine + bobLine
	all := []api.User{rootUser(), annUser(), bobUser()}
	for size := range len(text) + 1 {
		lines := strings.Count(text[:size], "\n")
		if size == 0 || text[size-1] == '\n' {
			checkParse(t, text[:size], all[:lines])
		} else {
			checkWrong(t, text[:size], lines+1, api.ErrForm)
		}
	}
}

func TestParseErrors(t *testing.T) {
	full := Print(manyUsers(8))
	first, last := Print(manyUsers(1)), Print(manyUsers(8)[7:])
	for _, c := range []struct {
		text string
		line int
		err  api.Errno
	}{
		{rootLine + rootLine, 2, api.ErrIs},
		{rootLine + annLine + rootLine, 3, api.ErrIs},
		{rootLine + annLine + annLine, 3, api.ErrIs},
		{rootLine + annLine + rootLine + annLine, 3, api.ErrIs},
		{rootLine + "root:*:1:1:/a:/b\n", 2, api.ErrIs}, // the name alone counts
		{rootLine + "roo::0:0:/:/bin/sh\nroot1::0:0:/:/bin/sh\nroot::5:5:/:/bin/sh\n", 4, api.ErrIs},
		{full + first, 9, api.ErrIs},
		{full + last, 9, api.ErrIs},
		{full + rootLine, 9, api.ErrMany},
		{full + rootLine + annLine, 9, api.ErrMany},
		{full + rootLine + rootLine, 9, api.ErrMany},
		{full + rootLine + "\n", 9, api.ErrMany},
		// Of several errors of one line the first of the list counts.
		{rootLine + rootLine[:len(rootLine)-1], 2, api.ErrForm},
		{rootLine + "root::00:0:/:/bin/sh\n", 2, api.ErrForm},
		{full + "\n", 9, api.ErrForm},
		{full + rootLine[:len(rootLine)-1], 9, api.ErrForm},
		{full + first[:len(first)-1], 9, api.ErrForm},
		{full + "x", 9, api.ErrForm},
		// Of several lines with errors the first counts.
		{rootLine + rootLine + "\n", 2, api.ErrIs},
		{rootLine + "\n" + rootLine, 2, api.ErrForm},
		{"\n" + full + rootLine, 1, api.ErrForm},
		{first + full, 2, api.ErrIs},
		{Print(manyUsers(7)) + first + rootLine, 8, api.ErrIs},
	} {
		checkWrong(t, c.text, c.line, c.err)
	}
}

// TestParseLong goes up to the bound of 4096 bytes and beyond it.
func TestParseLong(t *testing.T) {
	var text string
	for i := range 14 {
		text += lineOf(longUser(i))
	}
	checkWrong(t, text[:api.MaxData], 9, api.ErrMany)
	checkWrong(t, text[:api.MaxData-1], 9, api.ErrMany)
	checkWrong(t, text[:api.MaxData+1], 0, api.ErrLong)
	checkWrong(t, text, 0, api.ErrLong)
	checkWrong(t, rootLine+strings.Repeat("x", api.MaxData-len(rootLine)), 2, api.ErrForm)
	checkWrong(t, rootLine+strings.Repeat("x", api.MaxData-len(rootLine)+1), 0, api.ErrLong)
	for _, line := range []string{"\n", "x", ":", rootLine, annLine, "\x00"} {
		checkWrong(t, strings.Repeat(line, api.MaxData/len(line)+1), 0, api.ErrLong)
	}
	checkWrong(t, strings.Repeat("x", 1<<24), 0, api.ErrLong)
}

// place is what a path may look like in a line, but for its length.
const place = `(/[^:\x00-\x1f\x7f]*)`

var wholeLine = regexp.MustCompile(`^([a-z][a-z0-9]{0,7}):(\*?|[0-9a-f]{4}\$[0-9a-f]{16}):(0|[1-9][0-9]{0,4}):(0|[1-9][0-9]{0,4}):` + place + `:` + place + `$`)

// slowParse is the chapter's Parse of short lines, by a pattern.
func slowParse(text string) (int, api.Errno) {
	lines := strings.Split(text, "\n")
	seen := map[string]int{}
	for i, line := range lines[:len(lines)-1] {
		parts := wholeLine.FindStringSubmatch(line)
		if parts == nil || len(parts[3]) == 5 && parts[3] > "65535" || len(parts[4]) == 5 && parts[4] > "65535" || hasLongName(parts[5]) || hasLongName(parts[6]) {
			return i + 1, api.ErrForm
		}
		if seen[parts[1]] > 0 {
			return i + 1, api.ErrIs
		}
		if i >= 8 {
			return i + 1, api.ErrMany
		}
		seen[parts[1]]++
	}
	if lines[len(lines)-1] != "" {
		return len(lines), api.ErrForm
	}
	return 0, api.OK
}

func hasLongName(place string) bool {
	return len(place) > 128 || slices.ContainsFunc(strings.Split(place, "/"), func(name string) bool { return len(name) > 14 })
}

func checkSlow(t *testing.T, text string) {
	t.Helper()
	line, err := slowParse(text)
	if err != api.OK {
		checkWrong(t, text, line, err)
		return
	}
	l, n, e := Parse(text)
	if n != 0 || e != api.OK || !Right(l) || Print(l) != text || len(l) != strings.Count(text, "\n") {
		t.Errorf("Parse(%q) = %v, %d, %d", text, l, n, int(e))
	}
}

// TestParseBytes changes a file in every place to every other byte, puts every byte ahead of every place, and takes each byte away.
func TestParseBytes(t *testing.T) {
	text := "ab::10:0:/:/b\nac:*:7:65535:/c:/\nad:0007$45b1e8ad6017cd28:1:2:/./..:/d/\n"
	checkSlow(t, text)
	for at := range len(text) {
		checkSlow(t, text[:at]+text[at+1:])
		for b := range 256 {
			one := string([]byte{byte(b)})
			checkSlow(t, text[:at]+one+text[at+1:])
			checkSlow(t, text[:at]+one+text[at:])
		}
		if t.Failed() {
			return
		}
	}
	for b := range 256 {
		checkSlow(t, text+string([]byte{byte(b)}))
	}
}

// TestParseNumbers writes all numbers of up to five digits, and some of six, into a line.
func TestParseNumbers(t *testing.T) {
	for n := range 100100 {
		id := with(func(u *api.User) { u.ID = n })
		group := with(func(u *api.User) { u.Group = n })
		for _, user := range []api.User{id, group} {
			got, line, e := Parse(lineOf(user))
			if n <= 65535 && (!slices.Equal(got, []api.User{user}) || line != 0 || e != api.OK) || n > 65535 && (len(got) != 0 || line != 1 || e != api.ErrForm) {
				t.Fatalf("Parse(%q) = %v, %d, %d", lineOf(user), got, line, int(e))
			}
		}
	}
}

func FuzzParse(f *testing.F) {
	f.Add(rootLine + annLine + bobLine)
	f.Add(Print(manyUsers(8)))
	for _, line := range wrongLines() {
		f.Add(line)
	}
	f.Fuzz(func(t *testing.T, text string) {
		if len(text) > api.MaxData {
			checkWrong(t, text, 0, api.ErrLong)
			return
		}
		checkSlow(t, text)
	})
}

// oddList is a list as no file has it: names and ids more than once, users that are not valid.
func oddList() []api.User {
	return []api.User{
		{Name: "ann", Pass: "*", ID: 5, Home: "/1"},
		{Name: "", Pass: "x", ID: -3, Home: "2"},
		{Name: "bob", ID: 5, Shell: "3"},
		{Name: "ann", Pass: "y", ID: 7, Home: "/4"},
		{Name: "A:\n", Pass: ":", ID: math.MaxInt, Group: math.MinInt},
		{Name: "", ID: 0, Home: "6"},
		{Name: "bob", ID: 0, Shell: "7"},
	}
}

func TestFind(t *testing.T) {
	for _, c := range []struct {
		name  string
		place int
	}{
		{"ann", 0}, {"", 1}, {"bob", 2}, {"A:\n", 4}, {"an", -1}, {"anna", -1}, {"Ann", -1}, {" ann", -1}, {"ann ", -1}, {"ANN", -1}, {"*", -1}, {"5", -1}, {"\x00", -1}, {strings.Repeat("a", 1<<20), -1},
	} {
		checkFound(t, oddList(), c.place)(Find(oddList(), c.name))
		checkFound(t, nil, -1)(Find(nil, c.name))
		checkFound(t, nil, -1)(Find([]api.User{}, c.name))
	}
	checkFound(t, manyUsers(1000), 999)(Find(manyUsers(1000), numbered(999)))
	checkFound(t, []api.User{{}}, 0)(Find([]api.User{{}}, ""))
}

func TestOf(t *testing.T) {
	for _, c := range []struct{ id, place int }{
		{5, 0}, {-3, 1}, {7, 3}, {math.MaxInt, 4}, {0, 5}, {1, -1}, {3, -1}, {-5, -1}, {6, -1}, {65535, -1}, {65541, -1}, {math.MinInt, -1}, {1<<32 + 5, -1},
	} {
		checkFound(t, oddList(), c.place)(Of(oddList(), c.id))
		checkFound(t, nil, -1)(Of(nil, c.id))
		checkFound(t, nil, -1)(Of([]api.User{}, c.id))
	}
	checkFound(t, manyUsers(1000), 0)(Of(manyUsers(1000), 5))
	checkFound(t, nil, -1)(Of(manyUsers(1000), 6)) // no group counts
}

// checkFound holds an answer against the user in a place of the list, or against none.
func checkFound(t *testing.T, l []api.User, place int) func(api.User, bool) {
	return func(got api.User, ok bool) {
		t.Helper()
		var want api.User
		if place >= 0 {
			want = l[place]
		}
		if got != want || ok != (place >= 0) {
			t.Errorf("found %v, %v, not %v", got, ok, want)
		}
	}
}

func TestChange(t *testing.T) {
	for _, pass := range []string{"", "*", "0007$45b1e8ad6017cd28", "new", ":", "\n", strings.Repeat("p", 1<<16)} {
		for _, c := range []struct {
			name  string
			place int
		}{{"ann", 0}, {"", 1}, {"bob", 2}, {"A:\n", 4}} {
			want := oddList()
			want[c.place].Pass = pass
			l := oddList()
			got, ok := Change(l, c.name, pass)
			if !ok || !slices.Equal(got, want) {
				t.Errorf("Change(%q, %.40q) = %.300v, %v", c.name, pass, got, ok)
			}
			if !slices.Equal(l, oddList()) {
				t.Errorf("Change(%q, %.40q) alters its argument", c.name, pass)
			}
		}
		for _, name := range []string{"an", "anna", "Ann", "*", "x", "A:", "/1"} {
			l := oddList()
			if got, ok := Change(l, name, pass); len(got) != 0 || ok || !slices.Equal(l, oddList()) {
				t.Errorf("Change(%q, %.40q) = %.300v, %v", name, pass, got, ok)
			}
		}
		if got, ok := Change(nil, "ann", pass); len(got) != 0 || ok {
			t.Errorf("Change of nothing: %v, %v", got, ok)
		}
	}
	same := oddList()
	if got, ok := Change(same, "ann", "*"); !ok || !slices.Equal(got, same) {
		t.Errorf("Change to the same: %v, %v", got, ok)
	}
}

// TestChangeParsed changes a password as the file's programs do it: read, change, print.
func TestChangeParsed(t *testing.T) {
	l, _, _ := Parse(rootLine + annLine + bobLine)
	changed, ok := Change(l, "ann", "0007$45b1e8ad6017cd28")
	want := rootLine + strings.Replace(annLine, "*", "0007$45b1e8ad6017cd28", 1) + bobLine
	if got := Print(changed); !ok || got != want {
		t.Errorf("%q, not %q", got, want)
	}
	if got := Print(l); got != rootLine+annLine+bobLine {
		t.Errorf("the list ahead of the change: %q", got)
	}
	if wrong, ok := Change(l, "ann", "wrong"); !ok || Right(wrong) || Print(wrong) != "" {
		t.Errorf("a wrong field: %v, %v", wrong, ok)
	}
}

// TestOwnership overwrites what was handed in and what was answered: neither a later call nor another result may show it.
func TestOwnership(t *testing.T) {
	text := rootLine + annLine
	first, _, _ := Parse(text)
	second, _, _ := Parse(text)
	first[0].Name = "x"
	_ = append(first[:1], bobUser())
	if !slices.Equal(second, []api.User{rootUser(), annUser()}) {
		t.Errorf("two results share their users: %v", second)
	}
	checkParse(t, text, second)

	spare := append(make([]api.User, 0, 9), rootUser(), annUser(), bobUser())
	l := spare[:2]
	changed, _ := Change(l, "ann", "")
	again, _ := Change(l, "ann", "")
	l[0].Name, changed[1].Name = "y", "z"
	_ = append(changed, api.User{})
	if changed[0] != rootUser() || again[0] != rootUser() || again[1].Name != "ann" || l[1] != annUser() || spare[2] != bobUser() {
		t.Errorf("the results of Change share users: %v, %v, %v", spare, changed, again)
	}
	user, _ := Find(spare, "ann")
	spare[1].Home = "/x"
	if user != annUser() {
		t.Errorf("Find shares its user: %v", user)
	}
}

// TestArguments asks whether the calls leave their lists as they are.
func TestArguments(t *testing.T) {
	for _, whole := range [][]api.User{{rootUser(), annUser(), bobUser()}, oddList(), manyUsers(9)} {
		l := slices.Clone(whole)
		Right(l)
		Print(l)
		Find(l, "bob")
		Of(l, 5)
		Change(l, "bob", "x")
		if !slices.Equal(l, whole) {
			t.Errorf("a list was altered: %v", l)
		}
	}
}

// TestZeroBesideError holds what stands beside an error or a false against nothing.
func TestZeroBesideError(t *testing.T) {
	for _, text := range []string{rootLine + rootLine, rootLine + "x", strings.Repeat("x", 5000), Print(manyUsers(8)) + rootLine} {
		if l, _, e := Parse(text); len(l) != 0 || e == api.OK {
			t.Errorf("Parse(%.60q) = %v, %d", text, l, int(e))
		}
	}
	if user, ok := Find(oddList(), "none"); ok || !reflect.DeepEqual(user, api.User{}) {
		t.Errorf("Find: %v", user)
	}
	if user, ok := Of(oddList(), 99); ok || !reflect.DeepEqual(user, api.User{}) {
		t.Errorf("Of: %v", user)
	}
}
