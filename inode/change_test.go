package inode

import (
	"fmt"
	"math"
	"strings"
	"testing"

	"almoner/api"
)

func TestSet(t *testing.T) {
	for ino := 1; ino <= 7; ino++ {
		for _, c := range ownCases() {
			r := someTree(t)
			was := seen(r)
			want, _ := r.Stat(ino)
			err := r.Set(ino, c.mode, c.owner, c.group)
			what := fmt.Sprintf("Set(%d, %o, %d, %d)", ino, c.mode, c.owner, c.group)
			if !c.ok {
				expect(t, what, err, api.ErrArg)
				expectSeen(t, what, r, was)
				continue
			}
			expect(t, what, err, api.OK)
			want.Mode, want.Owner, want.Group = c.mode, c.owner, c.group
			expectStat(t, r, ino, want)
			for other := 1; other <= 7; other++ {
				info, _ := r.Stat(other)
				if other != ino && other != 1 && (info.Mode != 0o700 || info.Owner != 5 || info.Group != 7) {
					t.Errorf("%s: %d became %+v", what, other, info)
				}
			}
		}
	}
}

func TestSetNone(t *testing.T) {
	r := someTree(t)
	was := seen(r)
	for _, ino := range append(wrongNumbers(), 8, 200) {
		for _, c := range ownCases() { // also where ErrArg would apply
			expect(t, fmt.Sprint("Set ", ino, c), r.Set(ino, c.mode, c.owner, c.group), api.ErrNone)
		}
	}
	expectSeen(t, "Set", r, was)
}

func TestPut(t *testing.T) {
	full, half := strings.Repeat("x", 4096), strings.Repeat("y", 2048)
	for _, c := range []struct {
		data string
		at   int
		s    string
		want string
		err  api.Errno
	}{
		{"", 0, "", "", api.OK},
		{"", 0, "abc", "abc", api.OK},
		{"abcdef", 0, "XY", "XYcdef", api.OK},
		{"abcdef", 2, "XY", "abXYef", api.OK},
		{"abcdef", 4, "XY", "abcdXY", api.OK},
		{"abcdef", 5, "XY", "abcdeXY", api.OK},
		{"abcdef", 6, "XY", "abcdefXY", api.OK},
		{"abcdef", 3, "", "abcdef", api.OK}, // nothing is cut off
		{"abcdef", 6, "", "abcdef", api.OK},
		{"abcdef", 0, "ABCDEF", "ABCDEF", api.OK},
		{"abcdef", 0, "ABCDEFG", "ABCDEFG", api.OK},
		{"abcdef", 7, "", "", api.ErrArg},
		{"abcdef", 7, "x", "", api.ErrArg},
		{"abcdef", -1, "", "", api.ErrArg},
		{"abcdef", -1, "x", "", api.ErrArg},
		{"abcdef", math.MinInt, "x", "", api.ErrArg},
		{"abcdef", math.MaxInt, "x", "", api.ErrArg},
		{"", 1, "x", "", api.ErrArg},
		{"", 0, full, full, api.OK},
		{"", 0, full + "x", "", api.ErrFull},
		{"", -1, full + "x", "", api.ErrArg}, // a wrong place comes ahead of no room
		{"", 1, full, "", api.ErrArg},
		{half, 2049, full, "", api.ErrArg},
		{half, 2048, half, half + half, api.OK},
		{half, 2048, half + "x", "", api.ErrFull},
		{half, 2047, half + "x", half[1:] + half + "x", api.OK},
		{half, 1, full, "", api.ErrFull},
		{half, 0, full, full, api.OK},
		{full, 4096, "", full, api.OK},
		{full, 4096, "x", "", api.ErrFull},
		{full, 4095, "zz", "", api.ErrFull},
		{full, 4095, "z", full[1:] + "z", api.OK},
		{full, 0, "z", "z" + full[1:], api.OK},
		{full, 4097, "", "", api.ErrArg},
		{"abc", 1, "\x00\xff\n", "a\x00\xff\n", api.OK},
	} {
		r := someTree(t)
		expect(t, "Put", r.Put(6, 0, c.data), api.OK)
		was := seen(r)
		what := fmt.Sprintf("Put of %.9q at %d of %.9q", c.s, c.at, c.data)
		expect(t, what, r.Put(6, c.at, c.s), c.err)
		if c.err != api.OK {
			expectSeen(t, what, r, was)
			continue
		}
		if got := r.Data(6); got != c.want {
			t.Errorf("%s: %.40q, not %.40q", what, got, c.want)
		}
		expectStat(t, r, 6, api.Info{Ino: 6, Kind: file, Mode: 0o700, Owner: 5, Group: 7, Size: len(c.want)})
		if r.Data(4) != "data" {
			t.Errorf("%s: another file is %q", what, r.Data(4))
		}
	}
}

// TestPutEverywhere writes texts of all lengths at all places of a short file.
func TestPutEverywhere(t *testing.T) {
	const data, s = "abcdefgh", "0123456789"
	for at := range len(data) + 1 {
		for n := range len(s) + 1 {
			r := someTree(t)
			expect(t, "Put", r.Put(6, 0, data), api.OK)
			expect(t, "Put", r.Put(6, at, s[:n]), api.OK)
			got := r.Data(6)
			for i := range max(len(data), at+n) {
				want := byte(0)
				if i >= at && i < at+n {
					want = s[i-at]
				} else {
					want = data[i]
				}
				if i >= len(got) || got[i] != want {
					t.Fatalf("Put of %q at %d: %q", s[:n], at, got)
				}
			}
			if len(got) != max(len(data), at+n) {
				t.Errorf("Put of %q at %d: %q", s[:n], at, got)
			}
		}
	}
}

// TestPutAsItWas looks whether data that were answered stay as they were.
func TestPutAsItWas(t *testing.T) {
	r := someTree(t)
	was := r.Data(4)
	expect(t, "Put", r.Put(4, 1, "X"), api.OK)
	if was != "data" || r.Data(4) != "dXta" {
		t.Errorf("%q, %q", was, r.Data(4))
	}
}

func TestPutCutWrong(t *testing.T) {
	r := someTree(t)
	was := seen(r)
	long := strings.Repeat("x", 5000)
	for _, at := range []int{0, -1, 9, math.MaxInt} { // also where ErrArg or ErrFull would apply
		for _, s := range []string{"", "x", long} {
			what := fmt.Sprintf("at %d, %.5q", at, s)
			for _, ino := range append(wrongNumbers(), 8, 200) {
				expect(t, what, r.Put(ino, at, s), api.ErrNone)
			}
			for _, ino := range []int{1, 2, 3, 7} {
				expect(t, what, r.Put(ino, at, s), api.ErrFile)
			}
			expect(t, what, r.Put(5, at, s), api.ErrArg)
		}
	}
	for _, ino := range append(wrongNumbers(), 8, 200) {
		expect(t, "Cut", r.Cut(ino), api.ErrNone)
	}
	for _, ino := range []int{1, 2, 3, 7} {
		expect(t, "Cut", r.Cut(ino), api.ErrFile)
	}
	expect(t, "Cut", r.Cut(5), api.ErrArg)
	expectSeen(t, "Put or Cut", r, was)
}

func TestCut(t *testing.T) {
	r := someTree(t)
	expect(t, "Put", r.Put(6, 0, strings.Repeat("x", 4096)), api.OK)
	for range 2 { // an empty file, too
		expect(t, "Cut", r.Cut(4), api.OK)
		expectStat(t, r, 4, api.Info{Ino: 4, Kind: file, Mode: 0o700, Owner: 5, Group: 7, Links: 1})
		if r.Data(4) != "" {
			t.Errorf("Data: %q", r.Data(4))
		}
	}
	expectStat(t, r, 6, api.Info{Ino: 6, Kind: file, Mode: 0o700, Owner: 5, Group: 7, Size: 4096})
	expect(t, "Put", r.Put(4, 0, "new"), api.OK)
	if r.Data(4) != "new" {
		t.Errorf("Data: %q", r.Data(4))
	}
}

func TestEnter(t *testing.T) {
	r := someTree(t)
	enter(t, r, 3, "file", 6)
	enter(t, r, 1, "fourteen bytes", 6)
	enter(t, r, 3, "dir", 7)
	enter(t, r, 7, "...", 5) // a terminal may have more entries as well
	enter(t, r, 7, "\xff \x80", 4)
	expectStat(t, r, 6, api.Info{Ino: 6, Kind: file, Mode: 0o700, Owner: 5, Group: 7, Links: 2})
	expectStat(t, r, 7, api.Info{Ino: 7, Kind: dir, Mode: 0o700, Owner: 5, Group: 7, Links: 1, Size: 2})
	expectStat(t, r, 5, api.Info{Ino: 5, Kind: tty, Mode: 0o700, Owner: 5, Group: 7, Links: 2})
	expectNames(t, r, 1, "a", "f", "fourteen bytes", "t")
	expectNames(t, r, 3, "dir", "file")
	expectNames(t, r, 7, "...", "\xff \x80")
	expectLook(t, r, 3, "dir", 7)
	expectLook(t, r, 7, "..", 3)
	expectLook(t, r, 3, "..", 2)
	expectLook(t, r, 1, "fourteen bytes", 6)
	expectLook(t, r, 7, "...", 5)
	for _, ino := range []int{2, 6, 7} { // the holds are as they were
		drop(t, r, ino)
	}
	for ino := 1; ino <= 7; ino++ {
		if r.Drop(ino) {
			t.Errorf("%d has a hold", ino)
		}
	}
}

func TestEnterWrong(t *testing.T) {
	r := someTree(t)
	was := seen(r)
	none := append(wrongNumbers(), 8, 200)
	for _, name := range append(wrongNames(), "a", "new") { // also where other errors would apply
		for _, no := range none {
			for _, ino := range append(none, 1, 2, 4, 5, 6, 7) {
				expect(t, fmt.Sprintf("Enter(%d, %q, %d)", no, name, ino), r.Enter(no, name, ino), api.ErrNone)
				expect(t, fmt.Sprintf("Enter(%d, %q, %d)", ino, name, no), r.Enter(ino, name, no), api.ErrNone)
			}
		}
		for _, no := range []int{4, 5, 6} {
			for _, ino := range []int{1, 2, 4, 5, 6, 7} {
				expect(t, fmt.Sprintf("Enter(%d, %q, %d)", no, name, ino), r.Enter(no, name, ino), api.ErrDir)
			}
		}
	}
	for _, name := range wrongNames() {
		for _, ino := range []int{1, 2, 3, 6, 7} {
			expect(t, fmt.Sprintf("Enter(1, %q, %d)", name, ino), r.Enter(1, name, ino), api.ErrArg)
		}
	}
	for _, ino := range []int{1, 2, 3, 4, 6, 7} {
		expect(t, fmt.Sprintf("Enter(1, a, %d)", ino), r.Enter(1, "a", ino), api.ErrIs)
	}
	for _, to := range []int{1, 2, 3, 7} {
		for _, ino := range []int{1, 2, 3} {
			expect(t, fmt.Sprintf("Enter(%d, new, %d)", to, ino), r.Enter(to, "new", ino), api.ErrMany)
		}
	}
	expect(t, "Enter(7, new, 7)", r.Enter(7, "new", 7), api.ErrBusy)
	expectSeen(t, "Enter", r, was)
}

// TestEnterLinks gives files and terminals as many links as they may have, and takes some away.
func TestEnterLinks(t *testing.T) {
	for _, kind := range []int{file, tty} {
		r := someTree(t)
		ino := made(t, r, kind)
		for i := range 8 {
			enter(t, r, 1+i%3, fmt.Sprint("n", i), ino)
		}
		was := seen(r)
		for _, to := range []int{1, 2, 3, 7} {
			expect(t, "Enter", r.Enter(to, "new", ino), api.ErrMany)
		}
		expect(t, "Enter", r.Enter(1, "n0", ino), api.ErrIs)
		expect(t, "Enter", r.Enter(1, "", ino), api.ErrArg)
		expectSeen(t, "Enter", r, was)
		expectStat(t, r, ino, api.Info{Ino: ino, Kind: kind, Mode: 0o700, Owner: 5, Group: 7, Links: 8})
		expect(t, "Remove", r.Remove(2, "n1"), api.OK)
		enter(t, r, 7, "new", ino)
		expect(t, "Enter", r.Enter(1, "more", ino), api.ErrMany)
		drop(t, r, 7) // the directory goes, and the link with it
		expectStat(t, r, ino, api.Info{Ino: ino, Kind: kind, Mode: 0o700, Owner: 5, Group: 7, Links: 7})
		enter(t, r, 1, "more", ino)
		expect(t, "Enter", r.Enter(1, "still more", ino), api.ErrMany)
	}
}

// filled is some tree whose directory 3 has 40 entries: n00 to n07 of the file 8, n10 to n17 of 9, and so on to 12.
func filled(t *testing.T) *Tree {
	t.Helper()
	r := someTree(t)
	for i := range 5 {
		ino := made(t, r, file)
		for j := range 8 {
			enter(t, r, 3, fmt.Sprintf("n%d%d", i, j), ino)
		}
		drop(t, r, ino)
	}
	expectStat(t, r, 3, api.Info{Ino: 3, Kind: dir, Mode: 0o700, Owner: 5, Group: 7, Links: 1, Size: 40})
	return r
}

func TestEnterFull(t *testing.T) {
	r := filled(t)
	was := seen(r)
	for _, ino := range []int{4, 5, 6, 7} {
		expect(t, fmt.Sprintf("Enter(3, new, %d)", ino), r.Enter(3, "new", ino), api.ErrFull)
	}
	for _, ino := range []int{1, 2, 3, 8} { // more than one may have comes ahead of no room
		expect(t, fmt.Sprintf("Enter(3, new, %d)", ino), r.Enter(3, "new", ino), api.ErrMany)
	}
	expect(t, "Enter(3, n00, 6)", r.Enter(3, "n00", 6), api.ErrIs)
	expect(t, "Enter(3, .., 6)", r.Enter(3, "..", 6), api.ErrArg)
	expectSeen(t, "Enter", r, was)
	expect(t, "Remove", r.Remove(3, "n00"), api.OK)
	enter(t, r, 3, "new", 7)
	expect(t, "Enter", r.Enter(3, "newer", 6), api.ErrFull)
	enter(t, r, 7, "newer", 6)
}

// TestEnterRing tries to enter a directory below itself, also where there is no room.
func TestEnterRing(t *testing.T) {
	r := someTree(t)
	x, y := made(t, r, dir), made(t, r, dir)
	enter(t, r, 7, "x", x)
	enter(t, r, x, "y", y)
	was := seen(r)
	for _, to := range []int{7, x, y} {
		expect(t, "Enter", r.Enter(to, "new", 7), api.ErrBusy)
	}
	expectSeen(t, "Enter", r, was)
	for i := range 40 {
		if i%8 == 0 {
			made(t, r, file)
		}
		enter(t, r, y, fmt.Sprint("n", i), 10+i/8)
	}
	expect(t, "Enter", r.Enter(y, "new", 7), api.ErrFull)
	expect(t, "Enter", r.Enter(x, "new", 7), api.ErrBusy)
	enter(t, r, 3, "new", 7)
	expectLook(t, r, 7, "..", 3)
	expectLook(t, r, y, "..", x)
}

func TestRemove(t *testing.T) {
	r := someTree(t)
	enter(t, r, 2, "g", 4)
	expect(t, "Remove", r.Remove(1, "f"), api.OK) // it has another link
	expectStat(t, r, 4, api.Info{Ino: 4, Kind: file, Mode: 0o700, Owner: 5, Group: 7, Links: 1, Size: 4})
	expectNames(t, r, 1, "a", "t")
	expectLook(t, r, 1, "f", 0)
	expect(t, "Remove", r.Remove(2, "g"), api.OK)
	expectStat(t, r, 4, api.Info{})
	expectNames(t, r, 2, "b")
	expect(t, "Remove", r.Remove(1, "t"), api.OK)
	expectStat(t, r, 5, api.Info{})
	expect(t, "Remove", r.Remove(2, "b"), api.OK)
	expectStat(t, r, 3, api.Info{})
	expect(t, "Remove", r.Remove(1, "a"), api.OK) // it is held
	expectStat(t, r, 2, api.Info{Ino: 2, Kind: dir, Mode: 0o700, Owner: 5, Group: 7})
	expectLook(t, r, 2, "..", 2)
	expectNames(t, r, 1)
	expectStat(t, r, 1, api.Info{Ino: 1, Kind: dir, Mode: 0o755})
	expect(t, "Remove", r.Remove(1, "a"), api.ErrNone)
	enter(t, r, 7, "a", 2)
	expectLook(t, r, 2, "..", 7)
}

func TestRemoveWrong(t *testing.T) {
	r := someTree(t)
	was := seen(r)
	for _, name := range append(wrongNames(), "a", "b", "new") {
		for _, ino := range append(wrongNumbers(), 8, 200) {
			expect(t, fmt.Sprintf("Remove(%d, %q)", ino, name), r.Remove(ino, name), api.ErrNone)
		}
		for _, ino := range []int{4, 5, 6} {
			expect(t, fmt.Sprintf("Remove(%d, %q)", ino, name), r.Remove(ino, name), api.ErrDir)
		}
		for _, ino := range []int{1, 2, 3, 7} {
			want := api.ErrNone
			if ino == 1 && name == "a" {
				want = api.ErrBusy
			} else if ino == 2 && name == "b" {
				continue
			}
			expect(t, fmt.Sprintf("Remove(%d, %q)", ino, name), r.Remove(ino, name), want)
		}
	}
	expectSeen(t, "Remove", r, was)
}

func TestMove(t *testing.T) {
	for _, c := range []struct {
		dir  int
		name string
		to   int
		as   string
	}{
		{1, "f", 1, "g"}, {1, "f", 3, "f"}, {1, "f", 7, "fourteen bytes"}, {1, "t", 2, "t"}, {1, "t", 1, "..."},
		{2, "b", 1, "b"}, {2, "b", 2, "c"}, {2, "b", 7, "b"}, {1, "a", 7, "x"}, {1, "a", 1, "z"},
	} {
		r := someTree(t)
		ino, _ := r.Look(c.dir, c.name)
		want, _ := r.Stat(ino)
		what := fmt.Sprintf("Move(%d, %q, %d, %q)", c.dir, c.name, c.to, c.as)
		expect(t, what, r.Move(c.dir, c.name, c.to, c.as), api.OK)
		expectLook(t, r, c.to, c.as, ino)
		if c.dir != c.to || c.name != c.as {
			expectLook(t, r, c.dir, c.name, 0)
		}
		expectStat(t, r, ino, want)
		if want.Kind == dir {
			expectLook(t, r, ino, "..", c.to)
		}
		entries := 0
		for _, ino := range []int{1, 2, 3, 7} {
			entries += len(r.Names(ino))
		}
		if entries != 4 {
			t.Errorf("%s: %d entries", what, entries)
		}
	}
}

// TestMoveOnto moves entries onto others.
func TestMoveOnto(t *testing.T) {
	gone := api.Info{}
	own := func(ino, kind, links int) api.Info {
		return api.Info{Ino: ino, Kind: kind, Mode: 0o700, Owner: 5, Group: 7, Links: links}
	}
	for _, c := range []struct {
		what string
		old  int // what stands at `old` in the directory 2
		held bool
		more bool // it has another entry
		name string
		want api.Info // of old, behind that
	}{
		{"a file onto a file", file, false, false, "f", gone},
		{"a file onto one that is held", file, true, false, "f", own(8, file, 0)},
		{"a file onto one with two links", file, false, true, "f", own(8, file, 1)},
		{"a file onto a terminal", tty, false, false, "f", gone},
		{"a terminal onto a file", file, false, false, "t", gone},
		{"a terminal onto a terminal", tty, true, true, "t", own(8, tty, 1)},
		{"a directory onto a directory", dir, false, false, "d", gone},
		{"a directory onto one that is held", dir, true, false, "d", own(8, dir, 0)},
	} {
		r := someTree(t)
		made(t, r, c.old)
		enter(t, r, 2, "old", 8)
		enter(t, r, 1, "d", 7)
		enter(t, r, 7, "within", 6) // a directory that is moved may have entries
		if c.more {
			enter(t, r, 3, "more", 8)
		}
		if !c.held {
			drop(t, r, 8)
		}
		ino, _ := r.Look(1, c.name)
		was, _ := r.Stat(ino)
		expect(t, c.what, r.Move(1, c.name, 2, "old"), api.OK)
		expectLook(t, r, 2, "old", ino)
		expectLook(t, r, 1, c.name, 0)
		expectStat(t, r, ino, was)
		expectStat(t, r, 8, c.want)
		expectNames(t, r, 2, "b", "old")
		if was.Kind == dir {
			expectLook(t, r, ino, "..", 2)
			expectLook(t, r, 7, "within", 6)
		}
		if c.want.Kind == dir {
			expectLook(t, r, 8, "..", 8)
		}
	}
}

// TestMoveWithin moves an entry onto another of the same directory.
func TestMoveWithin(t *testing.T) {
	r := someTree(t)
	enter(t, r, 1, "g", 6)
	drop(t, r, 6)
	expect(t, "Move", r.Move(1, "f", 1, "g"), api.OK)
	expectNames(t, r, 1, "a", "g", "t")
	expectLook(t, r, 1, "g", 4)
	expectStat(t, r, 6, api.Info{})
	enter(t, r, 1, "d", 7)
	expect(t, "Move", r.Move(1, "a", 1, "d"), api.OK) // what is moved may have entries
	expectLook(t, r, 1, "d", 2)
	expectLook(t, r, 7, "..", 7)
	expectLook(t, r, 2, "..", 1)
	expectNames(t, r, 1, "d", "g", "t")
}

// TestMoveOntoItself moves entries onto those of the same inode: nothing happens.
func TestMoveOntoItself(t *testing.T) {
	r := someTree(t)
	enter(t, r, 1, "g", 4)
	enter(t, r, 3, "g", 4)
	enter(t, r, 2, "t", 5)
	enter(t, r, 1, "d", 7)
	was := seen(r)
	expect(t, "Move", r.Move(1, "f", 1, "f"), api.OK)
	expect(t, "Move", r.Move(1, "f", 1, "g"), api.OK)
	expect(t, "Move", r.Move(1, "f", 3, "g"), api.OK)
	expect(t, "Move", r.Move(3, "g", 1, "f"), api.OK)
	expect(t, "Move", r.Move(1, "t", 2, "t"), api.OK)
	expect(t, "Move", r.Move(1, "a", 1, "a"), api.OK) // a directory that has entries
	expect(t, "Move", r.Move(1, "d", 1, "d"), api.OK) // an empty one
	expect(t, "Move", r.Move(2, "b", 2, "b"), api.OK)
	expectSeen(t, "Move", r, was)
}

func TestMoveWrong(t *testing.T) {
	r := someTree(t)
	enter(t, r, 3, "g", 6)
	enter(t, r, 1, "d", 7)
	enter(t, r, 7, "e", made(t, r, dir))
	was := seen(r)
	none := append(wrongNumbers(), 9, 200)
	for _, name := range append(wrongNames(), "a", "new") { // also where other errors would apply
		for _, as := range append(wrongNames(), "a", "f", "new") {
			for _, ino := range append(none, 1, 2, 4, 5, 7) {
				for _, no := range none {
					expect(t, fmt.Sprintf("Move(%d, %q, %d, %q)", no, name, ino, as), r.Move(no, name, ino, as), api.ErrNone)
					expect(t, fmt.Sprintf("Move(%d, %q, %d, %q)", ino, name, no, as), r.Move(ino, name, no, as), api.ErrNone)
				}
			}
			for _, ino := range []int{1, 2, 4, 5, 7} {
				for _, no := range []int{4, 5, 6} {
					expect(t, fmt.Sprintf("Move(%d, %q, %d, %q)", no, name, ino, as), r.Move(no, name, ino, as), api.ErrDir)
					expect(t, fmt.Sprintf("Move(%d, %q, %d, %q)", ino, name, no, as), r.Move(ino, name, no, as), api.ErrDir)
				}
			}
			if name != "a" {
				for _, ino := range []int{1, 2, 3, 7} {
					expect(t, fmt.Sprintf("Move(1, %q, %d, %q)", name, ino, as), r.Move(1, name, ino, as), api.ErrNone)
				}
			}
		}
	}
	for _, as := range wrongNames() {
		for _, ino := range []int{1, 2, 3, 7} {
			expect(t, fmt.Sprintf("Move(1, a, %d, %q)", ino, as), r.Move(1, "a", ino, as), api.ErrArg)
			expect(t, fmt.Sprintf("Move(1, f, %d, %q)", ino, as), r.Move(1, "f", ino, as), api.ErrArg)
		}
	}
	for _, c := range []struct {
		dir  int
		name string
		to   int
		as   string
		want api.Errno
	}{
		{1, "a", 2, "new", api.ErrBusy}, // a directory to itself, or below itself
		{1, "a", 3, "new", api.ErrBusy},
		{2, "b", 3, "new", api.ErrBusy},
		{1, "a", 2, "b", api.ErrBusy},
		{1, "a", 3, "g", api.ErrBusy}, // that comes ahead of: one of them is a directory
		{2, "b", 3, "g", api.ErrBusy},
		{1, "f", 1, "a", api.ErrFile}, // a file onto a directory, and the other way round
		{1, "t", 1, "a", api.ErrFile},
		{1, "f", 2, "b", api.ErrFile}, // one that has entries, too
		{1, "f", 7, "e", api.ErrFile}, // or has none
		{1, "a", 1, "f", api.ErrFile},
		{1, "a", 1, "t", api.ErrFile},
		{7, "e", 3, "g", api.ErrFile},
		{1, "d", 1, "a", api.ErrBusy}, // a directory onto one that has entries
		{7, "e", 1, "a", api.ErrBusy},
		{7, "e", 2, "b", api.ErrBusy},
		{2, "b", 1, "a", api.ErrBusy}, // its own directory
		{3, "g", 2, "b", api.ErrFile},
	} {
		what := fmt.Sprintf("Move(%d, %q, %d, %q)", c.dir, c.name, c.to, c.as)
		expect(t, what, r.Move(c.dir, c.name, c.to, c.as), c.want)
	}
	expectSeen(t, "Move", r, was)
}

// TestMoveFull moves entries to a directory that has 40.
func TestMoveFull(t *testing.T) {
	r := filled(t)
	enter(t, r, 1, "d", 7)
	was := seen(r)
	expect(t, "Move", r.Move(1, "f", 3, "new"), api.ErrFull)
	expect(t, "Move", r.Move(1, "t", 3, "new"), api.ErrFull)
	expect(t, "Move", r.Move(1, "d", 3, "new"), api.ErrFull)
	expect(t, "Move", r.Move(1, "a", 3, "new"), api.ErrBusy) // below itself comes ahead of no room
	expect(t, "Move", r.Move(1, "f", 3, ".."), api.ErrArg)
	expect(t, "Move", r.Move(1, "none", 3, "new"), api.ErrNone)
	expect(t, "Move", r.Move(1, "d", 3, "n00"), api.ErrFile)
	expectSeen(t, "Move", r, was)
	expect(t, "Move", r.Move(3, "n00", 3, "new"), api.OK) // within it there is room
	expectLook(t, r, 3, "n00", 0)
	expectLook(t, r, 3, "new", 8)
	expect(t, "Move", r.Move(1, "f", 3, "n01"), api.OK) // the old entry makes room
	expectLook(t, r, 3, "n01", 4)
	expectLook(t, r, 1, "f", 0)
	expectStat(t, r, 8, api.Info{Ino: 8, Kind: file, Mode: 0o700, Owner: 5, Group: 7, Links: 7})
	if n := len(r.Names(3)); n != 40 {
		t.Errorf("%d entries", n)
	}
	expect(t, "Move", r.Move(3, "n02", 1, "f"), api.OK)
	expect(t, "Move", r.Move(1, "d", 3, "d"), api.OK)
	expectLook(t, r, 7, "..", 3)
	expect(t, "Move", r.Move(1, "t", 3, "t"), api.ErrFull)
	expect(t, "Move", r.Move(3, "n03", 3, "n04"), api.OK) // they are the same inode
	expectLook(t, r, 3, "n03", 8)
	expect(t, "Move", r.Move(3, "n03", 3, "n11"), api.OK)
	if n := len(r.Names(3)); n != 39 {
		t.Errorf("%d entries", n)
	}
}

// TestMoveLinks moves an inode that has as many links as it may have.
func TestMoveLinks(t *testing.T) {
	r := filled(t)
	expect(t, "Move", r.Move(3, "n00", 1, "x"), api.OK)
	expectStat(t, r, 8, api.Info{Ino: 8, Kind: file, Mode: 0o700, Owner: 5, Group: 7, Links: 8})
	expect(t, "Move", r.Move(3, "n01", 1, "f"), api.OK)
	expectStat(t, r, 8, api.Info{Ino: 8, Kind: file, Mode: 0o700, Owner: 5, Group: 7, Links: 8})
	expectStat(t, r, 4, api.Info{})
}
