package walk_test

import (
	"fmt"
	"math"
	"testing"

	"almoner/api"
	"almoner/inode"
	"almoner/walk"
)

const (
	rd = api.Read
	wr = api.Write
	rw = api.Read + api.Write
)

// opening is a call of Open from the root, which should answer the inode of a path.
func opening(t *testing.T, c api.Cred, s string, how api.How, path string) func(r *inode.Tree) api.Errno {
	return openingIn(t, "/", c, s, how, path)
}

func openingIn(t *testing.T, cwd string, c api.Cred, s string, how api.How, path string) func(r *inode.Tree) api.Errno {
	return func(r *inode.Tree) api.Errno {
		t.Helper()
		ino, err := walk.Open(r, at(r, cwd), c, s, how)
		if found := at(r, path); err == api.OK && ino != found || err != api.OK && ino != 0 {
			t.Errorf("Open(%q, %+v): %d, %v, but there is %d", s, how, ino, err, found)
		}
		return err
	}
}

// holding holds the inode of a path.
func holding(path string) func(r *inode.Tree) {
	return func(r *inode.Tree) { r.Hold(at(r, path)) }
}

// emptying holds a file, and empties it as Open does.
func emptying(path string) func(r *inode.Tree) {
	return func(r *inode.Tree) {
		ino := at(r, path)
		n, _ := r.Stat(ino)
		r.Hold(ino)
		r.Cut(ino)
		r.Set(ino, n.Mode&0o1777, n.Owner, n.Group)
	}
}

// making enters an inode into a directory; it is held, too, if it is a file.
func making(dir, name string, kind, mode, owner, group int) func(r *inode.Tree) {
	return func(r *inode.Tree) {
		ino, _ := r.Make(kind, mode, owner, group, 0)
		r.Enter(at(r, dir), name, ino)
		if kind == api.KindDir {
			r.Drop(ino)
		}
	}
}

func TestOpen(t *testing.T) {
	for _, c := range []struct {
		who  api.Cred
		cwd  string
		s    string
		want int
		path string // what is held
		err  api.Errno
	}{
		{other(), "/", "/pub/f", rd, "/pub/f", api.OK},
		{other(), "/pub/d", "../f", rd, "/pub/f", api.OK},
		{other(), "/pub/d", "x", rw, "/pub/d/x", api.OK},
		{other(), "/", "/pub/tty", wr, "/pub/tty", api.OK},
		{owner(), "/", "/pub/tty", rw, "/pub/tty", api.OK},
		{other(), "/", "/", rd, "/", api.OK},
		{other(), "/pub", ".", rd, "/pub", api.OK},
		{other(), "/pub/d", "..", rd, "/pub", api.OK},
		{other(), "/", "/list/", rd, "/list", api.OK},
		{owner(), "/", "/shut", rd, "/shut", api.OK},
		{group(), "/", "/pub/g", rd, "/pub/g", api.OK},
		{zero(), "/", "/none/f", rw, "/none/f", api.OK},
		{zero(), "/", "/none", rd, "/none", api.OK},

		{other(), "/", "/pub/nil", rd, "", api.ErrNone},
		{other(), "/", "/pub/nil/", wr, "", api.ErrNone},
		{other(), "/", "", rd, "", api.ErrNone},
		{other(), "/", "fifteen bytes..", rd, "", api.ErrLong},
		{other(), "/", "/pub/\n", rd, "", api.ErrArg},
		{other(), "/", "/pub/f/", rd, "", api.ErrDir},
		{other(), "/", "/pub/g/", rd, "", api.ErrDir}, // that comes ahead of the rights
		{other(), "/", "/pub/f/x", rd, "", api.ErrDir},
		{other(), "/pub/f", ".", rd, "", api.ErrDir},
		{other(), "/", "/shut/f", rd, "", api.ErrMay},
		{other(), "/", "/shut/nil", rd, "", api.ErrMay},
		{other(), "/", "/pub", wr, "", api.ErrFile},
		{other(), "/", "/pub/.", rw, "", api.ErrFile},
		{zero(), "/", "/pub", wr, "", api.ErrFile},
		{zero(), "/", "/", rw, "", api.ErrFile},
		{other(), "/", "/shut", wr, "", api.ErrFile}, // that comes ahead of the rights, too
		{other(), "/", "/shut", rd, "", api.ErrMay},
		{other(), "/", "/pub/f", wr, "", api.ErrMay},
		{other(), "/", "/pub/f", rw, "", api.ErrMay},
		{other(), "/", "/pub/tty", rd, "", api.ErrMay},
		{other(), "/", "/pub/tty", rw, "", api.ErrMay},
		{group(), "/", "/pub/g", wr, "", api.ErrMay},
		{owner(), "/", "/pub/g", rd, "", api.ErrMay}, // the group's rights are not the owner's
	} {
		var change func(r *inode.Tree)
		if c.err == api.OK {
			change = holding(c.path)
		}
		for _, how := range []api.How{{Want: c.want}, {Want: c.want, Alone: true, End: true, Mode: 0o5777}} { // without Make, Alone says nothing
			what := fmt.Sprintf("Open(%q, %+v) in %s by %d", c.s, how, c.cwd, c.who.Eff)
			expectChange(t, what, openingIn(t, c.cwd, c.who, c.s, how, c.path), c.err, change)
		}
	}
	r := grow(t, house)
	for _, cwd := range wrongInodes() {
		_, err := walk.Open(r, cwd, other(), "pub", api.How{Want: rd})
		expect(t, "Open", err, api.ErrNone)
		_, err = walk.Open(r, cwd, other(), "pub", api.How{Want: rd, Make: true})
		expect(t, "Open", err, api.ErrNone)
		_, err = walk.Open(r, cwd, other(), "/pub", api.How{Want: rd})
		expect(t, "Open", err, api.OK)
	}
}

// TestOpenHow asks for what Open doesn't do: that comes ahead of all other errors.
func TestOpenHow(t *testing.T) {
	var wrong []api.How
	for _, want := range []int{0, 1, 3, 5, 7, 8, 12, -2, -4, 2 + 1<<32, math.MaxInt, math.MinInt} {
		wrong = append(wrong, api.How{Want: want}, api.How{Want: want, Mode: 0o644})
	}
	for _, mode := range wrongModes() {
		wrong = append(wrong, api.How{Want: rd, Mode: mode}, api.How{Want: 1, Mode: mode})
	}
	for _, how := range wrong {
		for _, how.Make = range []bool{false, true} {
			for _, how.Alone = range []bool{false, true} {
				for _, s := range []string{"/pub/f", "/pub/nil", "/shut/f", "/pub/f/x", "", "fifteen bytes..", "/pub", "/pub/f/", "nil/x"} {
					expectChange(t, fmt.Sprintf("Open(%q, %+v)", s, how), opening(t, zero(), s, how, ""), api.ErrArg, nil)
				}
			}
		}
	}
}

// TestOpenRights opens what exists, of each kind and with each mode of modes, with and without Make.
func TestOpenRights(t *testing.T) {
	const text = "/f - 0 5 7\n/d d 0 5 7\n/t c 0 5 7"
	r := grow(t, text)
	for _, path := range []string{"/f", "/d", "/t"} {
		ino := at(r, path)
		for _, mode := range modes() {
			expect(t, "Set", r.Set(ino, mode, 5, 7), api.OK)
			info, _ := r.Stat(ino)
			for i, c := range callers() {
				for _, want := range []int{rd, wr, rw} {
					err := api.OK
					if path == "/d" && want != rd {
						err = api.ErrFile
					} else if !has(info, c, want) {
						err = api.ErrMay
					}
					_, got := walk.Open(r, 1, c, path, api.How{Want: want, Make: i%2 == 0})
					expect(t, fmt.Sprintf("Open(%s, %d) of mode %o by %+v", path, want, mode, c), got, err)
					if r.Drop(ino) != (err == api.OK) {
						t.Errorf("Open(%s, %d) of mode %o by %+v: it is held: %v", path, want, mode, c, err != api.OK)
					}
				}
			}
		}
	}
}

// TestOpenHolds opens a file several times, and looks whether each time counts.
func TestOpenHolds(t *testing.T) {
	r := grow(t, house)
	var ino int
	for _, how := range []api.How{{Want: wr, Make: true, Mode: 0o222}, {Want: wr, Make: true}, {Want: wr}, {Want: wr, Empty: true}} {
		n, err := walk.Open(r, 1, other(), "/pub/new", how)
		if expect(t, "Open", err, api.OK); ino != 0 && n != ino {
			t.Errorf("Open: %d, and then %d", ino, n)
		}
		ino = n
	}
	expect(t, "Remove", walk.Remove(r, 1, other(), "/pub/new", false), api.OK)
	for i := range 4 {
		if !r.Drop(ino) {
			t.Errorf("it is held %d times", i)
		}
	}
	if _, ok := r.Stat(ino); ok {
		t.Error("it is still there")
	}
}

func TestOpenMake(t *testing.T) {
	for _, c := range []struct {
		who api.Cred
		cwd string
		s   string
		how api.How
		dir string // where the file is made
		err api.Errno
	}{
		{other(), "/", "/pub/new", api.How{Want: wr, Mode: 0o644}, "/pub", api.OK},
		{other(), "/", "/pub/new", api.How{Want: rd, Mode: 0o5777, Alone: true}, "/pub", api.OK},
		{other(), "/", "/pub/new", api.How{Want: rw, Mode: 0, Empty: true}, "/pub", api.OK}, // its own rights don't count yet
		{other(), "/", "/pub/new", api.How{Want: wr, Mode: 0o4222, Empty: true, End: true}, "/pub", api.OK},
		{other(), "/pub/d", "../new", api.How{Want: rd}, "/pub", api.OK},
		{other(), "/pub/e", "new", api.How{Want: rd}, "/pub/e", api.OK},
		{other(), "/", "/tmp/new", api.How{Want: rd}, "/tmp", api.OK},
		{owner(), "/", "/shut/new", api.How{Want: rw, Mode: 0o600}, "/shut", api.OK},
		{owner(), "/", "/pub/d/new", api.How{Want: rw, Mode: 0o600}, "/pub/d", api.OK},
		{zero(), "/", "/none/new", api.How{Want: rw, Mode: 0o600}, "/none", api.OK},
		{zero(), "/", "new", api.How{Want: rw, Mode: 0o1}, "/", api.OK},
		{who(65535, 65535), "/", "/pub/new", api.How{Want: rd, Mode: 0o600}, "/pub", api.OK},

		{other(), "/", "/pub/new/", api.How{Want: rd}, "", api.ErrFile},
		{other(), "/", "/pub/new/.", api.How{Want: rd, Alone: true}, "", api.ErrFile},
		{other(), "/", "/pub/d/new/", api.How{Want: rd}, "", api.ErrFile}, // that comes ahead of the rights
		{zero(), "/", "/pub/new/", api.How{Want: rd}, "", api.ErrFile},
		{other(), "/", "/pub/d/new", api.How{Want: wr}, "", api.ErrMay},
		{group(), "/", "/pub/d/new", api.How{Want: rd}, "", api.ErrMay},
		{owner(), "/", "/look/new", api.How{Want: rd}, "", api.ErrMay},
		{other(), "/", "/new", api.How{Want: rd, Alone: true}, "", api.ErrMay},
		{other(), "/", "/list/new", api.How{Want: rd}, "", api.ErrMay}, // to write without to search
		{other(), "/", "/list/new/", api.How{Want: rd}, "", api.ErrMay},
		{other(), "/", "/shut/new/", api.How{Want: rd}, "", api.ErrMay},
		{other(), "/", "/shut/new", api.How{Want: rd}, "", api.ErrMay},

		{other(), "/", "/", api.How{Want: rd}, "", api.ErrArg}, // what has no last name
		{other(), "/pub", ".", api.How{Want: rd}, "", api.ErrArg},
		{other(), "/pub", "d/..", api.How{Want: rd}, "", api.ErrArg},
		{other(), "/pub", "", api.How{Want: rd}, "", api.ErrNone},
		{other(), "/pub", "fifteen bytes..", api.How{Want: rd}, "", api.ErrLong},
		{other(), "/pub", "a\n", api.How{Want: rd}, "", api.ErrArg},
		{other(), "/pub", "nil/new", api.How{Want: rd}, "", api.ErrNone},
		{other(), "/pub", "f/new", api.How{Want: rd}, "", api.ErrDir},
		{other(), "/pub", "g/new", api.How{Want: rd}, "", api.ErrDir},

		{who(-1, 0), "/", "/pub/new", api.How{Want: rd}, "", api.ErrArg}, // nobody can own that
		{who(65536, 0), "/", "/pub/new", api.How{Want: rd}, "", api.ErrArg},
		{who(0, -1), "/", "/pub/new", api.How{Want: rd}, "", api.ErrArg},
		{who(5, 1<<32), "/", "/pub/new", api.How{Want: rd}, "", api.ErrArg},
		{who(-1, 0), "/", "/look/new", api.How{Want: rd}, "", api.ErrMay},
	} {
		c.how.Make = true
		var change func(r *inode.Tree)
		if c.err == api.OK {
			change = making(c.dir, "new", api.KindFile, c.how.Mode, c.who.Eff, c.who.EffGroup)
		}
		what := fmt.Sprintf("Open(%q, %+v) in %s by %d", c.s, c.how, c.cwd, c.who.Eff)
		expectChange(t, what, openingIn(t, c.cwd, c.who, c.s, c.how, c.dir+"/new"), c.err, change)
	}
}

// TestOpenMakeOld opens with Make what exists.
func TestOpenMakeOld(t *testing.T) {
	for _, c := range []struct {
		who   api.Cred
		s     string
		how   api.How
		path  string
		alone api.Errno // what is answered with Alone
		err   api.Errno // and without
	}{
		{other(), "/pub/f", api.How{Want: rd, Mode: 0o777}, "/pub/f", api.ErrIs, api.OK},
		{other(), "/pub/d/x", api.How{Want: rw}, "/pub/d/x", api.ErrIs, api.OK}, // nothing is written to the directory
		{other(), "/look/f", api.How{Want: rw, Mode: 0o5777}, "/look/f", api.ErrIs, api.OK},
		{other(), "/pub/tty", api.How{Want: wr}, "/pub/tty", api.ErrIs, api.OK},
		{other(), "/pub", api.How{Want: rd}, "/pub", api.ErrIs, api.OK},
		{other(), "/pub/", api.How{Want: rd}, "/pub", api.ErrIs, api.OK},
		{other(), "/pub/d/.", api.How{Want: rd}, "/pub/d", api.ErrIs, api.OK},
		{other(), "/pub/f/", api.How{Want: rd}, "", api.ErrIs, api.ErrDir},
		{other(), "/pub/g/.", api.How{Want: rd}, "", api.ErrIs, api.ErrDir}, // ahead of the rights
		{other(), "/pub/tty/", api.How{Want: wr}, "", api.ErrIs, api.ErrDir},
		{zero(), "/pub/f/", api.How{Want: wr}, "", api.ErrIs, api.ErrDir},
		{other(), "/pub", api.How{Want: wr}, "", api.ErrIs, api.ErrFile},
		{other(), "/shut/", api.How{Want: rw}, "", api.ErrIs, api.ErrFile},
		{zero(), "/pub", api.How{Want: rw}, "", api.ErrIs, api.ErrFile},
		{other(), "/shut", api.How{Want: rd}, "", api.ErrIs, api.ErrMay},
		{other(), "/pub/f", api.How{Want: rw}, "", api.ErrIs, api.ErrMay},
		{other(), "/pub/g", api.How{Want: rd}, "", api.ErrIs, api.ErrMay},
		{other(), "/shut/f", api.How{Want: rd}, "", api.ErrMay, api.ErrMay},
		{other(), "/pub/f/x", api.How{Want: rd}, "", api.ErrDir, api.ErrDir},
		{other(), "/pub/..", api.How{Want: rd}, "", api.ErrArg, api.ErrArg},
	} {
		for _, c.how.Alone = range []bool{false, true} {
			c.how.Make = true
			err, change := c.err, holding(c.path)
			if c.how.Alone {
				err = c.alone
			}
			if err != api.OK {
				change = nil
			}
			what := fmt.Sprintf("Open(%q, %+v) by %d", c.s, c.how, c.who.Eff)
			expectChange(t, what, opening(t, c.who, c.s, c.how, c.path), err, change)
		}
	}
}

func TestOpenEmpty(t *testing.T) {
	const text = house + "/pub/s - 5766 5 7 full\n/pub/s0 - 4666 5 7\n/pub/ttys c 4666 5 7 1\n/pub/ds d 4777 5 7\n/pub/ds/x - 0 5 7\n"
	for _, c := range []struct {
		who   api.Cred
		s     string
		want  int
		path  string
		empty bool
		err   api.Errno
	}{
		{owner(), "/pub/f", wr, "/pub/f", true, api.OK},
		{owner(), "/pub/f", rw, "/pub/f", true, api.OK},
		{owner(), "/pub/f", rd, "/pub/f", false, api.OK}, // to read is not to empty
		{other(), "/pub/f", rd, "/pub/f", false, api.OK},
		{zero(), "/pub/f", wr, "/pub/f", true, api.OK},
		{other(), "/pub/s", wr, "/pub/s", true, api.OK}, // the sticky bit remains
		{other(), "/pub/s", rw, "/pub/s", true, api.OK},
		{other(), "/pub/s0", wr, "/pub/s0", true, api.OK}, // what is empty lends nothing either
		{other(), "/pub/d/x", wr, "/pub/d/x", true, api.OK},
		{other(), "/pub/ttys", wr, "/pub/ttys", false, api.OK}, // a terminal isn't emptied
		{other(), "/pub/ttys", rw, "/pub/ttys", false, api.OK},
		{other(), "/pub/ds", rd, "/pub/ds", false, api.OK},
		{other(), "/pub/ds", wr, "", false, api.ErrFile},
		{other(), "/pub/f", wr, "", false, api.ErrMay},
		{group(), "/pub/f", rw, "", false, api.ErrMay},
		{other(), "/pub/f/", wr, "", false, api.ErrDir},
	} {
		for _, how := range []api.How{{}, {Make: true}, {End: true, Make: true, Mode: 0o600}} {
			how.Want, how.Empty = c.want, true
			change := holding(c.path)
			if c.empty {
				change = emptying(c.path)
			}
			if c.err != api.OK {
				change = nil
			}
			what := fmt.Sprintf("Open(%q, %+v) by %d", c.s, how, c.who.Eff)
			expectChangeOf(t, text, what, opening(t, c.who, c.s, how, c.path), c.err, change)
			how.Empty = false
			if c.empty {
				expectChangeOf(t, text, what+" as it is", opening(t, c.who, c.s, how, c.path), api.OK, holding(c.path))
			}
		}
	}
}

func TestMkdir(t *testing.T) {
	for _, c := range []struct {
		who  api.Cred
		cwd  string
		s    string
		mode int
		dir  string // where the directory is made
		err  api.Errno
	}{
		{other(), "/", "/pub/new", 0o755, "/pub", api.OK},
		{other(), "/", "/pub/new/", 0, "/pub", api.OK},
		{other(), "/", "/pub/new/.", 0o5777, "/pub", api.OK},
		{other(), "/pub/d", "../e/new", 0o1777, "/pub/e", api.OK},
		{other(), "/pub/e", "new", 0o4000, "/pub/e", api.OK},
		{other(), "/", "/tmp/new", 0o700, "/tmp", api.OK},
		{owner(), "/", "/shut/d/../new", 0o700, "/shut", api.OK},
		{zero(), "/none", "new", 0o700, "/none", api.OK},
		{zero(), "/", "new", 0o700, "/", api.OK},
		{who(65535, 65535), "/pub", "new", 0o700, "/pub", api.OK},

		{other(), "/", "/pub", 0o755, "", api.ErrIs},
		{other(), "/", "/pub/f", 0o755, "", api.ErrIs},
		{other(), "/", "/pub/f/", 0o755, "", api.ErrIs},
		{other(), "/", "/pub/d/x", 0o755, "", api.ErrIs}, // that comes ahead of the rights
		{owner(), "/", "/look/f", 0o755, "", api.ErrIs},
		{other(), "/", "/pub/d/new", 0o755, "", api.ErrMay},
		{group(), "/", "/pub/d/new", 0o755, "", api.ErrMay},
		{owner(), "/", "/look/new/", 0o755, "", api.ErrMay},
		{owner(), "/", "new", 0o755, "", api.ErrMay},
		{other(), "/", "/list/new", 0o755, "", api.ErrMay},
		{other(), "/", "/shut/new", 0o755, "", api.ErrMay},
		{other(), "/", "/shut/f", 0o755, "", api.ErrMay},

		{other(), "/", "/", 0o755, "", api.ErrArg},
		{other(), "/pub", ".", 0o755, "", api.ErrArg},
		{other(), "/pub", "new/..", 0o755, "", api.ErrArg},
		{other(), "/pub", "", 0o755, "", api.ErrNone},
		{other(), "/pub", "nil/new", 0o755, "", api.ErrNone},
		{other(), "/pub", "f/new", 0o755, "", api.ErrDir},
		{other(), "/pub", "g/new", 0o755, "", api.ErrDir},
		{other(), "/pub", "fifteen bytes..", 0o755, "", api.ErrLong},
		{other(), "/pub", "new\x7f", 0o755, "", api.ErrArg},

		{who(-1, 0), "/pub", "new", 0o755, "", api.ErrArg},
		{who(0, 65536), "/pub", "new", 0o755, "", api.ErrArg},
		{who(-1, 0), "/pub", "f", 0o755, "", api.ErrIs},
		{who(-1, 0), "/look", "new", 0o755, "", api.ErrMay},
	} {
		var change func(r *inode.Tree)
		if c.err == api.OK {
			change = making(c.dir, "new", api.KindDir, c.mode, c.who.Eff, c.who.EffGroup)
		}
		call := func(r *inode.Tree) api.Errno { return walk.Mkdir(r, at(r, c.cwd), c.who, c.s, c.mode) }
		expectChange(t, fmt.Sprintf("Mkdir(%q, %o) in %s by %d", c.s, c.mode, c.cwd, c.who.Eff), call, c.err, change)
		for _, mode := range wrongModes() { // that comes ahead of all other errors
			call := func(r *inode.Tree) api.Errno { return walk.Mkdir(r, at(r, c.cwd), c.who, c.s, mode) }
			expectChange(t, fmt.Sprintf("Mkdir(%q, %o) in %s by %d", c.s, mode, c.cwd, c.who.Eff), call, api.ErrArg, nil)
		}
	}
	r := grow(t, house)
	for _, cwd := range wrongInodes() {
		expect(t, "Mkdir", walk.Mkdir(r, cwd, other(), "new", 0o755), api.ErrNone)
		expect(t, "Mkdir", walk.Mkdir(r, cwd, other(), "..", 0o755), api.ErrArg)
	}
}

// TestMakeRights makes files and directories in a directory with each mode of modes.
func TestMakeRights(t *testing.T) {
	r := grow(t, "/d d 0 5 7")
	dir := at(r, "/d")
	for _, mode := range modes() {
		expect(t, "Set", r.Set(dir, mode, 5, 7), api.OK)
		info, _ := r.Stat(dir)
		for _, c := range callers() {
			want := api.ErrMay
			if has(info, c, api.Write+api.Search) {
				want = api.OK
			}
			what := fmt.Sprintf("in a directory of mode %o by %+v", mode, c)
			ino, err := walk.Open(r, 1, c, "/d/new", api.How{Want: rd, Make: true})
			expect(t, "Open "+what, err, want)
			r.Remove(dir, "new")
			r.Drop(ino)
			expect(t, "Mkdir "+what, walk.Mkdir(r, 1, c, "/d/new", 0), want)
			r.Remove(dir, "new")
		}
	}
}

// TestMakeFull makes files and directories where there is no room: what was made is gone again.
func TestMakeFull(t *testing.T) {
	calls := map[string]func(r *inode.Tree, c api.Cred, s string) api.Errno{
		"Open": func(r *inode.Tree, c api.Cred, s string) api.Errno {
			ino, err := walk.Open(r, 1, c, s, api.How{Want: wr, Make: true, Mode: 0o666})
			if err != api.OK && ino != 0 {
				t.Errorf("Open: %d, %v", ino, err)
			}
			return err
		},
		"Mkdir": func(r *inode.Tree, c api.Cred, s string) api.Errno { return walk.Mkdir(r, 1, c, s, 0o777) },
	}
	for what, call := range calls {
		for _, c := range []struct {
			who  api.Cred
			s    string
			all  bool // all inodes are used up
			want api.Errno
		}{
			{other(), "/room/new", false, api.ErrFull},
			{zero(), "/room/new", false, api.ErrFull},
			{other(), "/room/new", true, api.ErrFull},
			{other(), "/pub/new", true, api.ErrFull},
			{zero(), "/none/new", true, api.ErrFull},
			{who(-1, 0), "/room/new", false, api.ErrArg}, // to be made comes ahead of to be entered
			{who(-1, 0), "/pub/new", true, api.ErrArg},
			{other(), "/look/new", true, api.ErrMay},
			{other(), "/room/nil/new", false, api.ErrNone},
		} {
			grown := func() *inode.Tree {
				r := grow(t, room())
				fill(r)
				if c.all {
					useUp(r)
				}
				return r
			}
			r := grown()
			expect(t, fmt.Sprintf("%s(%s) by %d", what, c.s, c.who.Eff), call(r, c.who, c.s), c.want)
			expectSame(t, what, picture(r), picture(grown()))
		}
		r := grow(t, room())
		fill(r)
		expect(t, "Remove", walk.Remove(r, 1, other(), "/room/n00", false), api.OK)
		expect(t, what, call(r, other(), "/room/new"), api.OK)
		expect(t, what, call(r, other(), "/room/newer"), api.ErrFull)
	}
}
