package path

import (
	"reflect"
	"slices"
	"strings"
	"testing"

	"almoner/api"
)

// shortTexts are all texts of at most size of these bytes.
func shortTexts(bytes string, size int) []string {
	texts := []string{""}
	last := texts
	for range size {
		var longer []string
		for _, s := range last {
			for i := range len(bytes) {
				longer = append(longer, s+bytes[i:i+1])
			}
		}
		texts = append(texts, longer...)
		last = longer
	}
	return texts
}

func checkSplit(t *testing.T, s string, want Path, err api.Errno) {
	t.Helper()
	got, e := Split(s)
	if e != err || got.Abs != want.Abs || got.Dir != want.Dir || !slices.Equal(got.Names, want.Names) {
		t.Errorf("Split(%q) = %+v, %d, not %+v, %d", s, got, int(e), want, int(err))
	}
}

func TestSplit(t *testing.T) {
	for _, c := range []struct {
		s    string
		want Path
	}{
		{"/a//./b/", Path{true, []string{"a", "b"}, true}},
		{".", Path{false, nil, true}},
		{"../x", Path{false, []string{"..", "x"}, false}},
		{"a", Path{false, []string{"a"}, false}},
		{"/a", Path{true, []string{"a"}, false}},
		{"a/", Path{false, []string{"a"}, true}},
		{"a//", Path{false, []string{"a"}, true}},
		{"a/b", Path{false, []string{"a", "b"}, false}},
		{"a/b/c", Path{false, []string{"a", "b", "c"}, false}},
		{"b/a/b", Path{false, []string{"b", "a", "b"}, false}}, // in order, and again
		{"/", Path{true, nil, true}},
		{"//", Path{true, nil, true}},
		{"///a", Path{true, []string{"a"}, false}},
		{"./", Path{false, nil, true}},
		{"./a", Path{false, []string{"a"}, false}},
		{"/.", Path{true, nil, true}},
		{"a/.", Path{false, []string{"a"}, true}},
		{"a/./.", Path{false, []string{"a"}, true}},
		{"..", Path{false, []string{".."}, true}},
		{"/..", Path{true, []string{".."}, true}},
		{"a/..", Path{false, []string{"a", ".."}, true}}, // .. takes nothing away
		{"a/../b", Path{false, []string{"a", "..", "b"}, false}},
		{"../..", Path{false, []string{"..", ".."}, true}},
		{"...", Path{false, []string{"..."}, false}},
		{"a/...", Path{false, []string{"a", "..."}, false}},
		{".a", Path{false, []string{".a"}, false}},
		{"a.", Path{false, []string{"a."}, false}},
		{"a..", Path{false, []string{"a.."}, false}},
		{"..a/.b./c..", Path{false, []string{"..a", ".b.", "c.."}, false}},
		{" ", Path{false, []string{" "}, false}},
		{" . / .. ", Path{false, []string{" . ", " .. "}, false}},
		{"a b:*\\~", Path{false, []string{"a b:*\\~"}, false}},
		{"\x80\xff/\u00e9", Path{false, []string{"\x80\xff", "\u00e9"}, false}},
	} {
		checkSplit(t, c.s, c.want, api.OK)
	}
}

// simpleSplit says of a path of right bytes and length what its parts make of it.
func simpleSplit(s string) Path {
	parts := strings.Split(s, "/")
	last := parts[len(parts)-1]
	names := slices.DeleteFunc(slices.Clone(parts), func(p string) bool { return p == "" || p == "." })
	return Path{strings.HasPrefix(s, "/"), names, last == "" || last == "." || last == ".."}
}

func TestSplitShort(t *testing.T) {
	for _, s := range shortTexts("ab./", 7)[1:] {
		checkSplit(t, s, simpleSplit(s), api.OK)
		if t.Failed() {
			return
		}
	}
}

func TestSplitBounds(t *testing.T) {
	name14, name15 := strings.Repeat("n", api.MaxName), strings.Repeat("n", api.MaxName+1)
	path128 := strings.Repeat("/abcdefg", api.MaxPath/8)
	ones := strings.Repeat("a/", api.MaxPath/2)
	for _, s := range []string{
		name14, "/" + name14, name14 + "/", "a/" + name14 + "/b/" + name14, strings.Repeat(".", api.MaxName),
		path128, ones, strings.Repeat("/", api.MaxPath), strings.Repeat("./", api.MaxPath/2), strings.Repeat("../", 42) + "..",
		"/" + strings.Repeat(name14+"/", 8) + "1234567",
	} {
		checkSplit(t, s, simpleSplit(s), api.OK)
	}
	for _, s := range []string{
		name15, "/" + name15, name15 + "/", "a/" + name15 + "/b", name15 + "/b", "a/" + name15, strings.Repeat(".", api.MaxName+1),
		path128 + "/", path128 + "h", ones + "a", strings.Repeat("/", api.MaxPath+1), strings.Repeat("./", api.MaxPath/2) + ".",
		"/" + strings.Repeat(name14+"/", 8) + "12345678", strings.Repeat("x", 1<<20), strings.Repeat("/", 1<<20),
	} {
		checkSplit(t, s, Path{}, api.ErrLong)
	}
	if got, _ := Split(ones); len(got.Names) != api.MaxPath/2 {
		t.Errorf("%d names of %d", len(got.Names), api.MaxPath/2)
	}
}

func TestSplitBytes(t *testing.T) {
	for b := range 256 {
		wrong := b < 32 || b == 127
		for _, around := range [][2]string{{"", ""}, {"x", "y"}, {"/x/", "/y"}, {"x/y", ""}, {"", "/"}, {"./", "/.."}} {
			s := around[0] + string([]byte{byte(b)}) + around[1]
			if wrong {
				checkSplit(t, s, Path{}, api.ErrArg)
			} else {
				checkSplit(t, s, simpleSplit(s), api.OK)
			}
		}
	}
}

// TestSplitFirstError holds each error against those that are listed behind it.
func TestSplitFirstError(t *testing.T) {
	name15 := strings.Repeat("n", api.MaxName+1)
	for _, c := range []struct {
		s   string
		err api.Errno
	}{
		{"", api.ErrNone},
		{"\n", api.ErrArg},
		{"\x00/" + name15, api.ErrLong},
		{name15 + "/\x00", api.ErrLong},
		{strings.Repeat("\x7f", api.MaxName), api.ErrArg},
		{strings.Repeat("\x7f", api.MaxName+1), api.ErrLong},
		{strings.Repeat("\n/", api.MaxPath/2), api.ErrArg},
		{strings.Repeat("\n/", api.MaxPath/2) + "/", api.ErrLong},
	} {
		got, e := Split(c.s)
		if e != c.err || !reflect.DeepEqual(got, Path{}) {
			t.Errorf("Split(%q) = %+v, %d, not error %d", c.s, got, int(e), int(c.err))
		}
	}
}

// TestSplitOwnership overwrites what Split returned: neither a later call nor an earlier result may show it.
func TestSplitOwnership(t *testing.T) {
	first, _ := Split("a/b/c")
	second, _ := Split("a/b/c")
	first.Names[0] = "x"
	_ = append(first.Names[:1], "y", "z")
	if !slices.Equal(second.Names, []string{"a", "b", "c"}) {
		t.Errorf("two results share their names: %q", second.Names)
	}
	checkSplit(t, "a/b/c", Path{false, []string{"a", "b", "c"}, false}, api.OK)
}

// TestNamesStop leaves the enumeration early and begins it again.
func TestNamesStop(t *testing.T) {
	all := names("/a/./b//c")
	for range 2 {
		for name := range all {
			if name != "a" {
				t.Errorf("the first name is %q", name)
			}
			break
		}
	}
	if got := slices.Collect(all); !slices.Equal(got, []string{"a", "b", "c"}) {
		t.Errorf("names: %q", got)
	}
}

func TestName(t *testing.T) {
	for _, s := range []string{
		"a", "A", "0", "-", "~", " ", "...", ".a", "a.", "..a", "a..", " .", ". ", "a b", "*", ":", "\x80", "\xff\xfe", "\u00e9",
		strings.Repeat("n", api.MaxName), strings.Repeat(".", api.MaxName), strings.Repeat("\u00e9", api.MaxName/2),
	} {
		if !Name(s) {
			t.Errorf("Name(%q) = false", s)
		}
	}
	for _, s := range []string{
		"", ".", "..", "/", "a/", "/a", "a/b", "./", "../", "a\n", "\na", "a\x00b", "a\x7f", "\x1f",
		strings.Repeat("n", api.MaxName+1), strings.Repeat(".", api.MaxName+1), strings.Repeat("\u00e9", api.MaxName/2+1), strings.Repeat("n", 1<<20),
		strings.Repeat("n", api.MaxName-1) + "/", strings.Repeat("n", api.MaxName-1) + "\x7f",
	} {
		if Name(s) {
			t.Errorf("Name(%q) = true", s)
		}
	}
}

func TestNameBytes(t *testing.T) {
	for b := range 256 {
		right := b >= 32 && b != 127 && b != '/'
		one := string([]byte{byte(b)})
		for _, s := range []string{"x" + one, one + "x", "x" + one + "y"} {
			if Name(s) != right {
				t.Errorf("Name(%q) = %v", s, !right)
			}
		}
		if got := Name(one); got != (right && one != ".") {
			t.Errorf("Name(%q) = %v", one, got)
		}
	}
}

func TestJoin(t *testing.T) {
	for _, c := range [][3]string{
		{"a/", "b", "a/b"},
		{"", "b", "b"},
		{"a", "b", "a/b"},
		{"/", "b", "/b"},
		{"//", "b", "//b"},
		{"a//", "b", "a//b"}, // nothing is tidied
		{"/a/b", "c", "/a/b/c"},
		{".", "b", "./b"},
		{"..", "..", "../.."},
		{"", "", ""},
		{"a", "", "a/"},
		{"a/", "", "a/"},
		{"/", "", "/"},
		{"", "/b", "/b"},
		{"a", "/b", "a//b"},
		{"a/", "/b", "a//b"},
		{"a\n", "\x00", "a\n/\x00"}, // wrong bytes are joined as any others
		{strings.Repeat("x", 200), strings.Repeat("y", 200), strings.Repeat("x", 200) + "/" + strings.Repeat("y", 200)},
	} {
		if got := Join(c[0], c[1]); got != c[2] {
			t.Errorf("Join(%q, %q) = %q, not %q", c[0], c[1], got, c[2])
		}
	}
}

// TestSplitOfJoin asks for the path's names with the joined one behind them.
func TestSplitOfJoin(t *testing.T) {
	long := strings.Repeat("abcdefg/", 14)
	dirs := append(shortTexts("ab./", 5)[1:], long, long+"abc", "/"+long)
	for _, dir := range dirs {
		before, e := Split(dir)
		if e != api.OK {
			t.Fatalf("Split(%q): %d", dir, int(e))
		}
		for _, name := range []string{"a", "...", ".b", strings.Repeat("n", 12)} {
			if !Name(name) {
				t.Fatalf("Name(%q) = false", name)
			}
			checkSplit(t, Join(dir, name), Path{before.Abs, append(slices.Clone(before.Names), name), false}, api.OK)
		}
	}
	checkSplit(t, Join(long+"abc", strings.Repeat("n", 13)), Path{}, api.ErrLong)
}

func TestBase(t *testing.T) {
	for _, c := range [][3]string{
		{"/a/b/", "/a/", "b"},
		{"x", "", "x"},
		{"//", "//", ""},
		{"", "", ""},
		{"/", "/", ""},
		{"///", "///", ""},
		{"x/", "", "x"},
		{"x///", "", "x"},
		{"/x", "/", "x"},
		{"//x", "//", "x"},
		{"/x//", "/", "x"},
		{"a/b", "a/", "b"},
		{"a//b", "a//", "b"}, // only the slashes at the end are removed
		{"a//b//", "a//", "b"},
		{"//a//b//", "//a//", "b"},
		{"/a/b/c", "/a/b/", "c"},
		{".", "", "."},
		{"..", "", ".."},
		{"a/..", "a/", ".."},
		{"a/./", "a/", "."},
		{"a\n/\x00", "a\n/", "\x00"},
		{strings.Repeat("x/", 200) + "y", strings.Repeat("x/", 200), "y"},
	} {
		dir, name := Base(c[0])
		if dir != c[1] || name != c[2] {
			t.Errorf("Base(%q) = %q, %q, not %q, %q", c[0], dir, name, c[1], c[2])
		}
	}
}

func TestBaseShort(t *testing.T) {
	for _, s := range shortTexts("ab./", 7) {
		dir, name := Base(s)
		whole := s
		for strings.HasSuffix(whole, "/") {
			whole = whole[:len(whole)-1]
		}
		if whole == "" {
			whole = s
		}
		if dir+name != whole || strings.Contains(name, "/") || dir != "" && !strings.HasSuffix(dir, "/") {
			t.Fatalf("Base(%q) = %q, %q", s, dir, name)
		}
		if (name == "") != (strings.Trim(s, "/") == "") {
			t.Fatalf("Base(%q) = %q, %q", s, dir, name)
		}
	}
}
