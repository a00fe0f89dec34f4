package walk_test

import (
	"fmt"
	"testing"

	"almoner/api"
	"almoner/inode"
	"almoner/walk"
)

func TestExample(t *testing.T) {
	r := grow(t, "/d d 700 5 5\n/tmp d 1777 0 0\n/tmp/f - 600 5 5\n/tmp/g - 600 5 5")
	for _, c := range []struct {
		uid  int
		want api.Errno
	}{{6, api.ErrMay}, {0, api.ErrNone}, {5, api.ErrNone}} {
		_, err := walk.Find(r, 1, who(c.uid, c.uid), "/d/x")
		expect(t, "Find", err, c.want)
	}
	expect(t, "Remove", walk.Remove(r, 1, who(6, 6), "/tmp/f", false), api.ErrPerm)
	expect(t, "Remove", walk.Remove(r, 1, who(5, 5), "/tmp/f", false), api.OK)
	expect(t, "Remove", walk.Remove(r, 1, who(0, 0), "/tmp/g", false), api.OK)
}

// expectFound looks for the inode that a path should denote, or for an error.
func expectFound(t *testing.T, r *inode.Tree, cwd int, c api.Cred, s string, found int, want api.Errno) {
	t.Helper()
	if want != api.OK {
		found = 0
	}
	if got, err := walk.Find(r, cwd, c, s); got != found || err != want {
		t.Errorf("Find(%q) in %d by %d: %d, %v; not %d, %v", s, cwd, c.Eff, got, err, found, want)
	}
}

func expectParent(t *testing.T, r *inode.Tree, cwd int, c api.Cred, s string, dir int, name string, want api.Errno) {
	t.Helper()
	if want != api.OK {
		dir, name = 0, ""
	}
	if got, is, err := walk.Parent(r, cwd, c, s); got != dir || is != name || err != want {
		t.Errorf("Parent(%q) in %d by %d: %d, %q, %v; not %d, %q, %v", s, cwd, c.Eff, got, is, err, dir, name, want)
	}
}

func TestFind(t *testing.T) {
	r := grow(t, house)
	was := view(r)
	for _, c := range []struct {
		who  api.Cred
		cwd  string
		s    string
		want string
		err  api.Errno
	}{
		{other(), "/", "/", "/", api.OK},
		{other(), "/pub/d", "/", "/", api.OK},
		{other(), "/pub/d", "//pub///f", "/pub/f", api.OK},
		{other(), "/pub/d", "x", "/pub/d/x", api.OK},
		{other(), "/pub/d", ".", "/pub/d", api.OK},
		{other(), "/pub/d", "./", "/pub/d", api.OK},
		{other(), "/pub/d", "./.", "/pub/d", api.OK},
		{other(), "/pub/d", "..", "/pub", api.OK},
		{other(), "/pub/d", "../", "/pub", api.OK},
		{other(), "/pub/d", "../..", "/", api.OK},
		{other(), "/pub/d", "../../../../..", "/", api.OK},
		{other(), "/pub/d", "/../pub/../tmp/./f", "/tmp/f", api.OK},
		{other(), "/pub/d", "../f", "/pub/f", api.OK},
		{other(), "/pub/d", "../d/", "/pub/d", api.OK},
		{other(), "/pub/d", "/pub/d/.", "/pub/d", api.OK},
		{other(), "/", "pub/d/x", "/pub/d/x", api.OK},
		{other(), "/", "pub/tty", "/pub/tty", api.OK},
		{other(), "/", "shut", "/shut", api.OK}, // what is found needs no rights
		{other(), "/", "/pub/g", "/pub/g", api.OK},
		{other(), "/", "/none/", "/none", api.OK},
		{other(), "/shut", ".", "/shut", api.OK},
		{other(), "/shut/d", "x", "/shut/d/x", api.OK}, // nor does what stands above
		{other(), "/shut/d", "..", "/shut", api.OK},
		{other(), "/pub/f", "/pub", "/pub", api.OK},

		{other(), "/", "none/f", "", api.ErrMay},
		{other(), "/", "/shut/f", "", api.ErrMay},
		{other(), "/", "/shut/..", "", api.ErrMay},
		{other(), "/", "/shut/.", "/shut", api.OK},
		{other(), "/", "/shut/d/x", "", api.ErrMay},
		{other(), "/shut", "f", "", api.ErrMay},
		{other(), "/shut", "..", "", api.ErrMay},
		{other(), "/shut", "../pub/f", "", api.ErrMay},
		{other(), "/shut/d", "../f", "", api.ErrMay},
		{other(), "/", "/list/f", "", api.ErrMay}, // to read is not to search
		{group(), "/", "/list/f", "", api.ErrMay},
		{owner(), "/", "/list/f", "/list/f", api.OK},
		{owner(), "/", "/shut/d/x", "/shut/d/x", api.OK},
		{owner(), "/", "/none/f", "", api.ErrMay},
		{group(), "/", "/shut/f", "", api.ErrMay},
		{zero(), "/", "/shut/d/x", "/shut/d/x", api.OK},
		{zero(), "/", "/none/f", "/none/f", api.OK},
		{zero(), "/none", "f", "/none/f", api.OK},

		{other(), "/", "nil", "", api.ErrNone},
		{other(), "/", "/pub/nil", "", api.ErrNone},
		{other(), "/", "/pub/nil/", "", api.ErrNone}, // there is none ahead of: it is no directory
		{other(), "/", "/pub/nil/x", "", api.ErrNone},
		{other(), "/", "/pub/nil/..", "", api.ErrNone},
		{other(), "/", "...", "", api.ErrNone},
		{zero(), "/", "/none/nil", "", api.ErrNone},
		{other(), "/", "/shut/nil", "", api.ErrMay}, // whether there is one is not told
		{other(), "/", "/shut/nil/", "", api.ErrMay},
		{other(), "/", "/shut/f/", "", api.ErrMay},
		{owner(), "/", "/shut/f/", "", api.ErrDir},

		{other(), "/", "/pub/f/", "", api.ErrDir},
		{other(), "/", "/pub/f/.", "", api.ErrDir},
		{other(), "/", "/pub/f/..", "", api.ErrDir},
		{other(), "/", "/pub/f/x", "", api.ErrDir},
		{other(), "/", "/pub/f/x/y/..", "", api.ErrDir},
		{other(), "/", "/pub/g/x", "", api.ErrDir}, // that comes ahead of the rights
		{other(), "/", "/pub/g/..", "", api.ErrDir},
		{zero(), "/", "/pub/d/x/..", "", api.ErrDir},
		{zero(), "/", "/pub/tty/", "", api.ErrDir},
		{zero(), "/", "/pub/tty/x", "", api.ErrDir},
		{other(), "/pub/f", ".", "", api.ErrDir}, // a file as working directory
		{other(), "/pub/f", "..", "", api.ErrDir},
		{other(), "/pub/f", "x", "", api.ErrDir},
		{other(), "/pub/g", "x", "", api.ErrDir},
		{zero(), "/pub/tty", ".", "", api.ErrDir},
	} {
		expectFound(t, r, at(r, c.cwd), c.who, c.s, at(r, c.want), c.err)
	}
	expectSame(t, "Find", view(r), was)
}

// TestFindNoStart starts where there is no inode.
func TestFindNoStart(t *testing.T) {
	r := grow(t, house)
	for _, cwd := range wrongInodes() {
		for _, s := range []string{".", "..", "pub", "pub/f/", "x/y/z"} {
			expectFound(t, r, cwd, zero(), s, 0, api.ErrNone)
		}
		expectFound(t, r, cwd, other(), "/", 1, api.OK)
		expectFound(t, r, cwd, other(), "/pub/f", at(r, "/pub/f"), api.OK)
		expectFound(t, r, cwd, other(), "/shut/f", 0, api.ErrMay)
		for s, err := range badPaths() {
			expectFound(t, r, cwd, other(), s, 0, err)
		}
	}
}

func TestFindBadPath(t *testing.T) {
	r := grow(t, house)
	for s, err := range badPaths() {
		for _, cwd := range []string{"/", "/pub", "/shut", "/pub/f"} {
			expectFound(t, r, at(r, cwd), other(), s, 0, err)
		}
	}
	long := "/pub/d/x"
	for len(long) < 128 {
		long = "/" + long
	}
	expectFound(t, r, 1, other(), long, at(r, "/pub/d/x"), api.OK)
	expectFound(t, r, 1, other(), "/pub/fourteen bytes", 0, api.ErrNone)
}

// searched calls something for each caller and a directory of 5 and 7 with each mode of modes, and tells whether the caller
// may search it.
func searched(t *testing.T, call func(r *inode.Tree, dir int, c api.Cred, may bool, what string)) {
	r := grow(t, "/d d 0 5 7\n/d/x - 0 5 7\n/d/e d 777 5 7\n/d/e/y - 0 5 7")
	dir := at(r, "/d")
	for _, mode := range modes() {
		expect(t, "Set", r.Set(dir, mode, 5, 7), api.OK)
		info, _ := r.Stat(dir)
		for _, c := range callers() {
			call(r, dir, c, has(info, c, api.Search), fmt.Sprintf("mode %o by %+v", mode, c))
		}
	}
}

func TestFindSearch(t *testing.T) {
	searched(t, func(r *inode.Tree, dir int, c api.Cred, may bool, what string) {
		for s, want := range map[string]string{"/d/x": "/d/x", "/d/e/y": "/d/e/y", "/d/..": "/", "/d/e/../e": "/d/e", "/d/nil": ""} {
			err := api.OK
			if !may {
				err = api.ErrMay
			} else if want == "" {
				err = api.ErrNone
			}
			expectFound(t, r, 1, c, s, at(r, want), err)
			expectFound(t, r, dir, c, "."+s[2:], at(r, want), err)
		}
		expectFound(t, r, 1, c, "/d", dir, api.OK)
		expectFound(t, r, dir, c, ".", dir, api.OK)
		if t.Failed() {
			t.Fatal(what)
		}
	})
}

func TestParent(t *testing.T) {
	r := grow(t, house)
	was := view(r)
	for _, c := range []struct {
		who  api.Cred
		cwd  string
		s    string
		dir  string
		name string
		err  api.Errno
	}{
		{other(), "/", "/pub", "/", "pub", api.OK},
		{other(), "/", "/nil", "/", "nil", api.OK}, // there need not be one
		{other(), "/", "nil/", "/", "nil", api.OK},
		{other(), "/pub", "nil", "/pub", "nil", api.OK},
		{other(), "/pub", "f", "/pub", "f", api.OK},
		{other(), "/pub", "f/", "/pub", "f", api.OK}, // nor a directory
		{other(), "/pub", "f/.", "/pub", "f", api.OK},
		{other(), "/pub", "d/.//.", "/pub", "d", api.OK},
		{other(), "/pub", "../pub/d/../nil", "/pub", "nil", api.OK},
		{other(), "/pub", "../x", "/", "x", api.OK},
		{other(), "/pub", "/../../x", "/", "x", api.OK},
		{other(), "/pub/d", "...", "/pub/d", "...", api.OK},
		{other(), "/", "/look/fourteen bytes", "/look", "fourteen bytes", api.OK},
		{other(), "/", "/shut", "/", "shut", api.OK},
		{other(), "/shut/d", "x", "/shut/d", "x", api.OK},
		{other(), "/pub/f", "/x", "/", "x", api.OK},
		{owner(), "/", "/shut/nil", "/shut", "nil", api.OK},
		{zero(), "/", "/none/nil", "/none", "nil", api.OK},

		{other(), "/", "/", "", "", api.ErrArg},
		{other(), "/", "///.//.", "", "", api.ErrArg},
		{other(), "/", ".", "", "", api.ErrArg},
		{other(), "/", "./", "", "", api.ErrArg},
		{other(), "/", "..", "", "", api.ErrArg},
		{other(), "/", "/..", "", "", api.ErrArg},
		{other(), "/pub", "d/..", "", "", api.ErrArg},
		{other(), "/pub", "d/../", "", "", api.ErrArg},
		{other(), "/pub", "d/.././.", "", "", api.ErrArg},
		{other(), "/pub", "f/..", "", "", api.ErrArg}, // that comes ahead of all that is found
		{other(), "/pub", "nil/..", "", "", api.ErrArg},
		{other(), "/", "/shut/..", "", "", api.ErrArg},
		{other(), "/pub/f", ".", "", "", api.ErrArg},
		{other(), "/pub/f", "..", "", "", api.ErrArg},

		{other(), "/", "/nil/x", "", "", api.ErrNone},
		{other(), "/", "/pub/nil/x/y", "", "", api.ErrNone},
		{other(), "/", "/pub/f/x", "", "", api.ErrDir},
		{other(), "/", "/pub/f/x/y", "", "", api.ErrDir},
		{other(), "/", "/pub/g/x", "", "", api.ErrDir},
		{zero(), "/", "/pub/tty/x", "", "", api.ErrDir},
		{other(), "/pub/f", "x", "", "", api.ErrDir},
		{other(), "/pub/g", "x", "", "", api.ErrDir},
		{other(), "/", "/shut/f", "", "", api.ErrMay},
		{other(), "/", "/shut/nil", "", "", api.ErrMay},
		{other(), "/", "/shut/d/x", "", "", api.ErrMay},
		{other(), "/", "/shut/nil/x", "", "", api.ErrMay},
		{other(), "/", "/list/f", "", "", api.ErrMay},
		{other(), "/shut", "f", "", "", api.ErrMay},
		{other(), "/shut", "../x", "", "", api.ErrMay},
		{group(), "/", "/shut/f", "", "", api.ErrMay},
		{owner(), "/", "/none/f", "", "", api.ErrMay},
	} {
		expectParent(t, r, at(r, c.cwd), c.who, c.s, at(r, c.dir), c.name, c.err)
	}
	expectSame(t, "Parent", view(r), was)
}

func TestParentNoStart(t *testing.T) {
	r := grow(t, house)
	for _, cwd := range wrongInodes() {
		for _, s := range []string{"x", "pub", "pub/f", "x/y/z"} {
			expectParent(t, r, cwd, zero(), s, 0, "", api.ErrNone)
		}
		for _, s := range []string{".", "..", "x/..", "/", "/.."} {
			expectParent(t, r, cwd, zero(), s, 0, "", api.ErrArg)
		}
		expectParent(t, r, cwd, other(), "/x", 1, "x", api.OK)
		expectParent(t, r, cwd, other(), "/pub/x", at(r, "/pub"), "x", api.OK)
		for s, err := range badPaths() {
			expectParent(t, r, cwd, other(), s, 0, "", err)
		}
	}
}

func TestParentBadPath(t *testing.T) {
	r := grow(t, house)
	for s, err := range badPaths() {
		for _, cwd := range []string{"/", "/pub", "/shut", "/pub/f"} {
			expectParent(t, r, at(r, cwd), other(), s, 0, "", err)
		}
	}
	expectParent(t, r, 1, other(), "fifteen bytes../..", 0, "", api.ErrLong) // ahead of: it ends on ..
	expectParent(t, r, 1, other(), "x\n/..", 0, "", api.ErrArg)
}

func TestParentSearch(t *testing.T) {
	searched(t, func(r *inode.Tree, dir int, c api.Cred, may bool, what string) {
		err := api.OK
		if !may {
			err = api.ErrMay
		}
		for _, name := range []string{"x", "e", "nil"} {
			expectParent(t, r, 1, c, "/d/"+name, dir, name, err)
			expectParent(t, r, dir, c, name, dir, name, err)
			expectParent(t, r, 1, c, "/d/e/"+name, at(r, "/d/e"), name, err)
		}
		expectParent(t, r, 1, c, "/d", 1, "d", api.OK)
		expectParent(t, r, at(r, "/d/e"), c, "x", at(r, "/d/e"), "x", api.OK)
		if t.Failed() {
			t.Fatal(what)
		}
	})
}

// TestGone works in a directory that has no entry any more, and is held only.
func TestGone(t *testing.T) {
	r := grow(t, house)
	gone := at(r, "/pub/e")
	r.Hold(gone)
	expect(t, "Remove", walk.Remove(r, 1, other(), "/pub/e", true), api.OK)
	expectFound(t, r, gone, other(), "..", gone, api.OK)
	expectFound(t, r, gone, other(), "../../.", gone, api.OK)
	expectFound(t, r, gone, other(), "pub", 0, api.ErrNone)
	expectParent(t, r, gone, other(), "../x", gone, "x", api.OK)
	expect(t, "Mkdir", walk.Mkdir(r, gone, other(), "x", 0o700), api.OK)
	r.Drop(gone)
	expectFound(t, r, gone, other(), ".", 0, api.ErrNone)
}

// TestNoTree calls the functions with the tree that inode.New refused.
func TestNoTree(t *testing.T) {
	none := inode.New(-1, 0, 0)
	for _, s := range []string{"/", ".", "x", "/x"} {
		expectFound(t, none, 1, zero(), s, 0, api.ErrNone)
	}
	expectParent(t, none, 1, zero(), "x", 0, "", api.ErrNone)
	how := api.How{Want: api.Read, Make: true}
	_, err := walk.Open(none, 1, zero(), "/x", how)
	expect(t, "Open", err, api.ErrNone)
	for what, err := range map[string]api.Errno{
		"Mkdir":  walk.Mkdir(none, 1, zero(), "/x", 0o700),
		"Remove": walk.Remove(none, 1, zero(), "/x", false),
		"Link":   walk.Link(none, 1, zero(), "/x", "/y"),
		"Rename": walk.Rename(none, 1, zero(), "/x", "/y"),
		"Chmod":  walk.Chmod(none, 1, zero(), "/x", 0o700),
		"Chown":  walk.Chown(none, 1, zero(), "/x", 0, 0),
		"Put":    walk.Put(none, 1, 0, "x"),
	} {
		expect(t, what, err, api.ErrNone)
	}
}
