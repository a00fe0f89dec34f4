package inode

import (
	"fmt"
	"math"
	"slices"
	"strings"
	"testing"

	"almoner/api"
)

const (
	file = api.KindFile
	dir  = api.KindDir
	tty  = api.KindTty
)

// wrongNumbers are those that no inode ever has.
func wrongNumbers() []int {
	return []int{0, -1, 201, 202, 1000, 1<<32 + 1, math.MaxInt, math.MinInt}
}

// wrongNames are those that no entry may have.
func wrongNames() []string {
	return []string{"", ".", "..", "/", "a/b", "/a", "a/", "fifteen bytes..", "a\n", "\x00", "\x1f", "\x7f"}
}

// someTree has the directories a (2, held) and a/b (3), the file f (4), whose data are `data`, the terminal t (5), and
// beside them the file 6 and the directory 7, which are held only.
func someTree(t *testing.T) *Tree {
	t.Helper()
	r := New(0o755, 0, 0)
	for _, kind := range []int{dir, dir, file, tty, file, dir} {
		made(t, r, kind)
	}
	enter(t, r, 1, "a", 2)
	enter(t, r, 2, "b", 3)
	enter(t, r, 1, "f", 4)
	enter(t, r, 1, "t", 5)
	expect(t, "Put", r.Put(4, 0, "data"), api.OK)
	for ino := 3; ino <= 5; ino++ {
		drop(t, r, ino)
	}
	return r
}

func expect(t *testing.T, what string, got, want api.Errno) {
	t.Helper()
	if got != want {
		t.Errorf("%s: %v, not %v", what, got, want)
	}
}

// made makes an inode and returns its number.
func made(t *testing.T, r *Tree, kind int) int {
	t.Helper()
	ino, err := r.Make(kind, 0o700, 5, 7, 0)
	expect(t, "Make", err, api.OK)
	return ino
}

func enter(t *testing.T, r *Tree, dir int, name string, ino int) {
	t.Helper()
	expect(t, fmt.Sprintf("Enter(%d, %q, %d)", dir, name, ino), r.Enter(dir, name, ino), api.OK)
}

func drop(t *testing.T, r *Tree, ino int) {
	t.Helper()
	if !r.Drop(ino) {
		t.Errorf("Drop(%d) = false", ino)
	}
}

// seen is all that can be seen of a tree, and its holds.
func seen(r *Tree) string {
	var b strings.Builder
	for ino := 1; ino <= 200; ino++ {
		info, ok := r.Stat(ino)
		if !ok {
			continue
		}
		up, _ := r.Look(ino, "..")
		fmt.Fprintf(&b, "%+v %q, up %d, %d holds:", info, r.Data(ino), up, r.inodes[ino].holds)
		for _, name := range r.Names(ino) {
			to, _ := r.Look(ino, name)
			fmt.Fprintf(&b, " %s %d", name, to)
		}
		b.WriteString("\n")
	}
	return b.String()
}

// expectSeen looks whether a tree is as it was.
func expectSeen(t *testing.T, what string, r *Tree, was string) {
	t.Helper()
	if is := seen(r); is != was {
		t.Errorf("%s changed\n%sto\n%s", what, was, is)
	}
}

// expectStat looks for an inode, or for none, if the number is 0.
func expectStat(t *testing.T, r *Tree, ino int, want api.Info) {
	t.Helper()
	if got, ok := r.Stat(ino); got != want || ok != (want.Ino != 0) {
		t.Errorf("Stat(%d): %+v, %v; not %+v", ino, got, ok, want)
	}
}

func expectLook(t *testing.T, r *Tree, dir int, name string, want int) {
	t.Helper()
	if got, ok := r.Look(dir, name); got != want || ok != (want != 0) {
		t.Errorf("Look(%d, %q): %d, %v; not %d", dir, name, got, ok, want)
	}
}

func expectNames(t *testing.T, r *Tree, dir int, want ...string) {
	t.Helper()
	if got := r.Names(dir); !slices.Equal(got, want) {
		t.Errorf("Names(%d): %q, not %q", dir, got, want)
	}
}

func TestExample(t *testing.T) {
	r := New(0o755, 0, 0)
	if ino, err := r.Make(dir, 0o755, 0, 0, 0); ino != 2 || err != api.OK {
		t.Errorf("Make: %d, %v", ino, err)
	}
	enter(t, r, 1, "a", 2)
	expectLook(t, r, 2, "..", 1)
	expect(t, "Enter", r.Enter(2, "b", 2), api.ErrMany)
	drop(t, r, 2)
	expectStat(t, r, 2, api.Info{Ino: 2, Kind: dir, Mode: 0o755, Links: 1})
	expect(t, "Remove", r.Remove(1, "a"), api.OK)
	expectStat(t, r, 2, api.Info{})
}

// ownCases are modes, owners and groups, and whether an inode may have them.
func ownCases() []struct {
	mode, owner, group int
	ok                 bool
} {
	return []struct {
		mode, owner, group int
		ok                 bool
	}{
		{0o755, 0, 0, true}, {0, 5, 7, true}, {0o5777, 65535, 65535, true}, {0o4755, 65535, 0, true}, {0o1777, 0, 65535, true},
		{0o2755, 0, 0, false}, {0o10755, 0, 0, false}, {0o6000, 0, 0, false}, {-1, 0, 0, false}, {math.MinInt, 0, 0, false},
		{math.MaxInt, 0, 0, false}, {1 << 32, 0, 0, false}, {1755, 0, 0, false},
		{0o755, -1, 0, false}, {0o755, 65536, 0, false}, {0o755, math.MinInt, 0, false}, {0o755, 1 << 32, 0, false},
		{0o755, 0, -1, false}, {0o755, 0, 65536, false}, {0o755, 0, math.MaxInt, false}, {0o755, 0, -1 << 32, false},
		{-1, -1, -1, false}, {0o7777, 65536, 65536, false},
	}
}

func TestNew(t *testing.T) {
	for _, c := range ownCases() {
		r := New(c.mode, c.owner, c.group)
		if (r != nil) != c.ok {
			t.Errorf("New(%o, %d, %d) is a tree: %v", c.mode, c.owner, c.group, r != nil)
		}
		if r == nil {
			continue
		}
		expectStat(t, r, 1, api.Info{Ino: 1, Kind: dir, Mode: c.mode, Owner: c.owner, Group: c.group})
		expectLook(t, r, 1, "..", 1)
		expectLook(t, r, 1, ".", 1)
		expectNames(t, r, 1)
		for ino := -1; ino <= 202; ino++ {
			if ino != 1 {
				expectStat(t, r, ino, api.Info{})
			}
		}
		if r.Drop(1) {
			t.Error("the root is held")
		}
	}
}

// TestNewModes asks for a root with every number of four octal digits as mode.
func TestNewModes(t *testing.T) {
	for m := -0o10; m <= 0o10000; m++ {
		if ok := m >= 0 && m&^0o5777 == 0; (New(m, 0, 0) != nil) != ok {
			t.Errorf("New(%o, 0, 0) is a tree: %v", m, !ok)
		}
	}
}

// TestNoTree calls the methods of the tree that New refused.
func TestNoTree(t *testing.T) {
	r := New(-1, 0, 0)
	if ino, err := r.Make(file, 0, 0, 0, 0); ino != 0 || err == api.OK {
		t.Errorf("Make: %d, %v", ino, err)
	}
	if info, ok := r.Stat(1); ok || info != (api.Info{}) || r.Hold(1) || r.Drop(1) || r.Data(1) != "" || len(r.Names(1)) != 0 {
		t.Error("there is something in no tree")
	}
	expectLook(t, r, 1, ".", 0)
	for what, err := range map[string]api.Errno{
		"Set": r.Set(1, 0, 0, 0), "Put": r.Put(1, 0, ""), "Cut": r.Cut(1),
		"Enter": r.Enter(1, "a", 1), "Remove": r.Remove(1, "a"), "Move": r.Move(1, "a", 1, "b"),
	} {
		expect(t, what, err, api.ErrNone)
	}
}

func TestMake(t *testing.T) {
	for _, c := range []struct {
		kind, tty int
		want      api.Info
	}{
		{file, 0, api.Info{Kind: file}},
		{dir, 0, api.Info{Kind: dir}},
		{tty, 0, api.Info{Kind: tty}},
		{tty, 1, api.Info{Kind: tty, Tty: 1}},
		{tty, 3, api.Info{Kind: tty, Tty: 3}},
		{file, 3, api.Info{Kind: file}}, // of other kinds it is ignored
		{dir, 3, api.Info{Kind: dir}},
		{file, 4, api.Info{Kind: file}},
		{dir, -1, api.Info{Kind: dir}},
		{file, math.MinInt, api.Info{Kind: file}},
		{dir, math.MaxInt, api.Info{Kind: dir}},
	} {
		for _, o := range ownCases() {
			r := New(0o700, 1, 1)
			ino, err := r.Make(c.kind, o.mode, o.owner, o.group, c.tty)
			what := fmt.Sprintf("Make(%d, %o, %d, %d, %d)", c.kind, o.mode, o.owner, o.group, c.tty)
			if !o.ok {
				expect(t, what, err, api.ErrArg)
				expectStat(t, r, 2, api.Info{})
				continue
			}
			want := c.want
			want.Ino, want.Mode, want.Owner, want.Group = 2, o.mode, o.owner, o.group
			if expect(t, what, err, api.OK); ino != 2 {
				t.Errorf("%s: %d", what, ino)
			}
			expectStat(t, r, 2, want)
			up, isDir := r.Look(2, "..")
			if isDir != (c.kind == dir) || isDir && up != 2 {
				t.Errorf("%s: its parent is %d, %v", what, up, isDir)
			}
			if r.Data(2) != "" || len(r.Names(2)) != 0 {
				t.Errorf("%s: it is not empty", what)
			}
			drop(t, r, 2)
			expectStat(t, r, 2, api.Info{})
		}
	}
}

func TestMakeWrong(t *testing.T) {
	r := someTree(t)
	was := seen(r)
	for _, c := range [][5]int{
		{-1, 0, 0, 0, 0}, {3, 0, 0, 0, 0}, {math.MaxInt, 0, 0, 0, 0}, {math.MinInt, 0, 0, 0, 0}, {1 << 32, 0, 0, 0, 0},
		{tty, 0, 0, 0, -1}, {tty, 0, 0, 0, 4}, {tty, 0, 0, 0, 1 << 32}, {tty, 0, 0, 0, math.MinInt}, {3, -1, -1, -1, -1},
	} {
		ino, err := r.Make(c[0], c[1], c[2], c[3], c[4])
		if expect(t, fmt.Sprint("Make", c), err, api.ErrArg); ino != 0 {
			t.Errorf("Make%v: %d", c, ino)
		}
	}
	expectSeen(t, "Make", r, was)
}

// TestMakeFull makes all inodes, and asks for the smallest free numbers behind that.
func TestMakeFull(t *testing.T) {
	r := New(0o755, 0, 0)
	for want := 2; want <= 200; want++ {
		if ino := made(t, r, want%3); ino != want {
			t.Fatalf("Make: %d, not %d", ino, want)
		}
	}
	was := seen(r)
	for kind := range 3 {
		if ino, err := r.Make(kind, 0, 0, 0, 0); ino != 0 || err != api.ErrFull {
			t.Errorf("Make: %d, %v", ino, err)
		}
	}
	for _, c := range [][5]int{{3, 0, 0, 0, 0}, {file, -1, 0, 0, 0}, {dir, 0, -1, 0, 0}, {dir, 0, 0, 65536, 0}, {tty, 0, 0, 0, 4}} {
		_, err := r.Make(c[0], c[1], c[2], c[3], c[4])
		expect(t, fmt.Sprint("Make", c), err, api.ErrArg)
	}
	expectSeen(t, "Make", r, was)
	for _, ino := range []int{200, 77, 2, 31} {
		drop(t, r, ino)
	}
	for _, want := range []int{2, 31, 77, 200} {
		if ino := made(t, r, file); ino != want {
			t.Errorf("Make: %d, not %d", ino, want)
		}
	}
	if _, err := r.Make(file, 0, 0, 0, 0); err != api.ErrFull {
		t.Errorf("Make: %v", err)
	}
}

// TestMakeAnew makes other inodes with the number of one that was full of things.
func TestMakeAnew(t *testing.T) {
	r := New(0o755, 0, 0)
	before := func(kind int) {
		t.Helper()
		ino, err := r.Make(kind, 0o5777, 9, 9, 3)
		if expect(t, "Make", err, api.OK); ino != 2 {
			t.Errorf("Make: %d", ino)
		}
		r.Put(2, 0, "data")
		r.Hold(2)
		r.Enter(1, "y", 2)
		r.Remove(1, "y")
		r.Enter(2, "x", made(t, r, dir))
		drop(t, r, 3)
		drop(t, r, 2)
		drop(t, r, 2)
		expectStat(t, r, 2, api.Info{})
		expectStat(t, r, 3, api.Info{})
	}
	for _, kind := range []int{file, dir, tty} {
		for _, next := range []int{file, dir, tty} {
			before(kind)
			made(t, r, next)
			expectStat(t, r, 2, api.Info{Ino: 2, Kind: next, Mode: 0o700, Owner: 5, Group: 7})
			expectNames(t, r, 2)
			if up, _ := r.Look(2, ".."); next == dir && up != 2 || r.Data(2) != "" {
				t.Errorf("%d behind %d has the parent %d and the data %q", next, kind, up, r.Data(2))
			}
			drop(t, r, 2)
			expectStat(t, r, 2, api.Info{})
		}
	}
}

func TestStat(t *testing.T) {
	r := someTree(t)
	for _, want := range []api.Info{
		{Ino: 1, Kind: dir, Mode: 0o755, Size: 3},
		{Ino: 2, Kind: dir, Mode: 0o700, Owner: 5, Group: 7, Links: 1, Size: 1},
		{Ino: 3, Kind: dir, Mode: 0o700, Owner: 5, Group: 7, Links: 1},
		{Ino: 4, Kind: file, Mode: 0o700, Owner: 5, Group: 7, Links: 1, Size: 4},
		{Ino: 5, Kind: tty, Mode: 0o700, Owner: 5, Group: 7, Links: 1},
		{Ino: 6, Kind: file, Mode: 0o700, Owner: 5, Group: 7},
		{Ino: 7, Kind: dir, Mode: 0o700, Owner: 5, Group: 7},
	} {
		expectStat(t, r, want.Ino, want)
	}
	for _, ino := range append(wrongNumbers(), 8, 9, 199, 200) {
		expectStat(t, r, ino, api.Info{})
	}
}

func TestData(t *testing.T) {
	r := someTree(t)
	for ino := -1; ino <= 202; ino++ {
		want := ""
		if ino == 4 {
			want = "data"
		}
		if got := r.Data(ino); got != want {
			t.Errorf("Data(%d) = %q", ino, got)
		}
	}
	all := string([]byte{0, 255, '\n', 128, 'a'})
	expect(t, "Put", r.Put(6, 0, all), api.OK)
	if r.Data(6) != all || r.Data(4) != "data" {
		t.Errorf("Data: %q, %q", r.Data(6), r.Data(4))
	}
	for _, ino := range wrongNumbers() {
		if got := r.Data(ino); got != "" {
			t.Errorf("Data(%d) = %q", ino, got)
		}
	}
}

func TestNames(t *testing.T) {
	r := someTree(t)
	expectNames(t, r, 1, "a", "f", "t")
	expectNames(t, r, 2, "b")
	for _, ino := range append(wrongNumbers(), 3, 4, 5, 6, 7, 8, 200) {
		expectNames(t, r, ino)
	}
	for _, name := range []string{"b", "\xff", "B", "ab", "10", "9", " ", "é", "...", "~"} {
		enter(t, r, 7, name, made(t, r, file))
	}
	expectNames(t, r, 7, " ", "...", "10", "9", "B", "ab", "b", "~", "é", "\xff")
	expect(t, "Remove", r.Remove(7, "B"), api.OK)
	expectNames(t, r, 7, " ", "...", "10", "9", "ab", "b", "~", "é", "\xff")
}

// TestNamesAnew changes an answer and looks whether the tree has it still, and the answer the tree.
func TestNamesAnew(t *testing.T) {
	r := someTree(t)
	first := r.Names(1)
	first[0], first[1] = "x", "y"
	expectNames(t, r, 1, "a", "f", "t")
	second := r.Names(1)
	expect(t, "Remove", r.Remove(1, "f"), api.OK)
	if !slices.Equal(second, []string{"a", "f", "t"}) {
		t.Errorf("an answer became %q", second)
	}
	_ = append(second[:1], "z")
	expectNames(t, r, 1, "a", "t")
}

func TestLook(t *testing.T) {
	r := someTree(t)
	for _, c := range []struct {
		dir  int
		name string
		want int
	}{
		{1, ".", 1}, {1, "..", 1}, {1, "a", 2}, {1, "f", 4}, {1, "t", 5}, {1, "b", 0}, {1, "A", 0}, {1, "", 0}, {1, "a/b", 0}, {1, "a ", 0},
		{1, "...", 0}, {1, "/", 0}, {1, strings.Repeat("a", 300), 0}, {1, "a\x00", 0},
		{2, ".", 2}, {2, "..", 1}, {2, "b", 3}, {2, "a", 0}, {2, "f", 0},
		{3, ".", 3}, {3, "..", 2}, {3, "b", 0},
		{4, ".", 0}, {4, "..", 0}, {4, "a", 0}, {4, "", 0},
		{5, ".", 0}, {5, "..", 0}, {5, "a", 0},
		{6, ".", 0}, {6, "..", 0},
		{7, ".", 7}, {7, "..", 7}, {7, "a", 0},
		{8, ".", 0}, {8, "..", 0}, {8, "a", 0}, {200, ".", 0},
	} {
		expectLook(t, r, c.dir, c.name, c.want)
	}
	for _, ino := range wrongNumbers() {
		for _, name := range []string{".", "..", "a", ""} {
			expectLook(t, r, ino, name, 0)
		}
	}
}

func TestHoldDrop(t *testing.T) {
	r := someTree(t)
	for ino := 1; ino <= 7; ino++ {
		held := 0
		if ino == 2 || ino > 5 {
			held = 1
		}
		was, _ := r.Stat(ino)
		for range 3 {
			if !r.Hold(ino) {
				t.Errorf("Hold(%d) = false", ino)
			}
		}
		expectStat(t, r, ino, was)
		for range 3 {
			drop(t, r, ino)
			expectStat(t, r, ino, was)
		}
		if held > 0 {
			drop(t, r, ino)
		}
		if was.Links == 0 && ino != 1 {
			was = api.Info{}
		}
		expectStat(t, r, ino, was)
		if r.Drop(ino) {
			t.Errorf("Drop(%d) = true without holds", ino)
		}
		expectStat(t, r, ino, was)
		if got, want := r.Hold(ino), was.Ino != 0; got != want {
			t.Errorf("Hold(%d) = %v", ino, got)
		}
	}
}

func TestHoldDropNone(t *testing.T) {
	r := someTree(t)
	was := seen(r)
	for _, ino := range append(wrongNumbers(), 8, 200) {
		if r.Hold(ino) || r.Drop(ino) {
			t.Errorf("%d is held or dropped", ino)
		}
	}
	for _, ino := range []int{1, 3, 4, 5} {
		if r.Drop(ino) {
			t.Errorf("Drop(%d) = true without holds", ino)
		}
	}
	expectSeen(t, "Hold or Drop", r, was)
}

// TestDropLast drops inodes that no entry refers to, of each kind.
func TestDropLast(t *testing.T) {
	for _, kind := range []int{file, dir, tty} {
		r := New(0o755, 0, 0)
		made(t, r, kind)
		enter(t, r, 1, "x", 2)
		expect(t, "Remove", r.Remove(1, "x"), api.OK)
		expectStat(t, r, 2, api.Info{Ino: 2, Kind: kind, Mode: 0o700, Owner: 5, Group: 7})
		r.Hold(2)
		drop(t, r, 2)
		expectStat(t, r, 2, api.Info{Ino: 2, Kind: kind, Mode: 0o700, Owner: 5, Group: 7})
		drop(t, r, 2)
		expectStat(t, r, 2, api.Info{})
		if r.Drop(2) || r.Hold(2) {
			t.Error("it is held or dropped again")
		}
		enter(t, r, 1, "x", made(t, r, kind)) // the other way round
		drop(t, r, 2)
		expectStat(t, r, 2, api.Info{Ino: 2, Kind: kind, Mode: 0o700, Owner: 5, Group: 7, Links: 1})
		expect(t, "Remove", r.Remove(1, "x"), api.OK)
		expectStat(t, r, 2, api.Info{})
	}
}

// TestDropWithEntries drops the directory 7 with all that is in it; what is held, or linked elsewhere, remains.
func TestDropWithEntries(t *testing.T) {
	r := someTree(t)
	inner, deep := made(t, r, dir), made(t, r, file)
	heldDir, heldFile := made(t, r, dir), made(t, r, file)
	below := made(t, r, dir)
	enter(t, r, 7, "inner", inner)
	enter(t, r, inner, "deep", deep)
	enter(t, r, 7, "again", deep) // a file with two entries, in both
	enter(t, r, inner, "f", 4)    // one that stands in the root, too
	enter(t, r, inner, "held", heldDir)
	enter(t, r, heldDir, "below", below)
	enter(t, r, 7, "file", heldFile)
	enter(t, r, 7, "file2", heldFile)
	for _, ino := range []int{inner, deep, below} {
		drop(t, r, ino)
	}
	drop(t, r, 7)
	for _, ino := range []int{7, inner, deep} {
		expectStat(t, r, ino, api.Info{})
		expectLook(t, r, ino, ".", 0)
		expectNames(t, r, ino)
	}
	expectStat(t, r, 4, api.Info{Ino: 4, Kind: file, Mode: 0o700, Owner: 5, Group: 7, Links: 1, Size: 4})
	expectStat(t, r, heldDir, api.Info{Ino: heldDir, Kind: dir, Mode: 0o700, Owner: 5, Group: 7, Size: 1})
	expectLook(t, r, heldDir, "..", heldDir)
	expectLook(t, r, below, "..", heldDir)
	expectStat(t, r, heldFile, api.Info{Ino: heldFile, Kind: file, Mode: 0o700, Owner: 5, Group: 7})
	drop(t, r, heldFile)
	expectStat(t, r, heldFile, api.Info{})
	enter(t, r, 3, "again", heldDir) // it has no link and may be entered anew
	expectLook(t, r, heldDir, "..", 3)
	drop(t, r, heldDir)
	expectLook(t, r, heldDir, "below", below)
}

// TestDropDeep drops the top of a row of as many directories as there may be.
func TestDropDeep(t *testing.T) {
	r := New(0o755, 0, 0)
	for want := 2; want <= 200; want++ {
		made(t, r, dir)
	}
	for ino := 200; ino > 2; ino-- {
		enter(t, r, ino-1, "x", ino)
		drop(t, r, ino)
	}
	expectLook(t, r, 200, "..", 199)
	expect(t, "Enter", r.Enter(200, "x", 2), api.ErrBusy)
	expect(t, "Enter", r.Enter(1, "x", 2), api.OK)
	expect(t, "Move", r.Move(1, "x", 200, "x"), api.ErrBusy)
	expect(t, "Remove", r.Remove(1, "x"), api.ErrBusy)
	expect(t, "Move", r.Move(2, "x", 1, "y"), api.OK)
	expect(t, "Remove", r.Remove(1, "x"), api.OK)
	drop(t, r, 2)
	expectStat(t, r, 2, api.Info{})
	if ino := made(t, r, dir); ino != 2 {
		t.Errorf("Make: %d", ino)
	}
	expect(t, "Move", r.Move(1, "y", 2, "x"), api.OK)
	drop(t, r, 2)
	for ino := 2; ino <= 200; ino++ {
		expectStat(t, r, ino, api.Info{})
	}
	expectNames(t, r, 1)
}

// TestTwoTrees looks whether a tree changes another.
func TestTwoTrees(t *testing.T) {
	r, other := someTree(t), someTree(t)
	was := seen(other)
	r.Set(1, 0, 9, 9)
	r.Put(4, 0, "other bytes")
	r.Remove(2, "b")
	r.Move(1, "f", 2, "g")
	r.Enter(1, "x", 7)
	drop(t, r, 6)
	expectSeen(t, "another tree", other, was)
}
