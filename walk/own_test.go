package walk_test

import (
	"fmt"
	"math"
	"strings"
	"testing"

	"almoner/api"
	"almoner/inode"
	"almoner/walk"
)

// setting gives the inode of a path another mode, owner and group.
func setting(path string, mode, owner, group int) func(r *inode.Tree) {
	return func(r *inode.Tree) { r.Set(at(r, path), mode, owner, group) }
}

func TestChmod(t *testing.T) {
	for _, c := range []struct {
		who    api.Cred
		cwd    string
		s      string
		mode   int
		change func(r *inode.Tree)
		err    api.Errno
	}{
		{owner(), "/", "/pub/f", 0o600, setting("/pub/f", 0o600, 5, 7), api.OK},
		{owner(), "/pub", "f", 0o5777, setting("/pub/f", 0o5777, 5, 7), api.OK},
		{owner(), "/pub", "f", 0o4000, setting("/pub/f", 0o4000, 5, 7), api.OK},
		{owner(), "/pub", "g", 0, setting("/pub/g", 0, 5, 7), api.OK},
		{owner(), "/pub/d", "../tty", 0o1600, setting("/pub/tty", 0o1600, 5, 7), api.OK},
		{owner(), "/pub/d", ".", 0o1700, setting("/pub/d", 0o1700, 5, 7), api.OK},
		{owner(), "/", "/none/", 0o700, setting("/none", 0o700, 5, 7), api.OK}, // no rights but to come there
		{owner(), "/", "/look/f", 0o7, setting("/look/f", 0o7, 5, 7), api.OK},
		{other(), "/", "/tmp/o", 0o4711, setting("/tmp/o", 0o4711, 8, 9), api.OK},
		{other(), "/shut/d", "/mine/o", 0o644, setting("/mine/o", 0o644, 8, 9), api.OK},
		{zero(), "/", "/pub/f", 0o4755, setting("/pub/f", 0o4755, 5, 7), api.OK},
		{zero(), "/", "/", 0o700, setting("/", 0o700, 0, 0), api.OK},
		{zero(), "/", "/none/f", 0o1755, setting("/none/f", 0o1755, 5, 7), api.OK},

		{other(), "/", "/pub/f", 0o600, nil, api.ErrPerm},
		{group(), "/", "/pub/g", 0o600, nil, api.ErrPerm},
		{other(), "/", "/pub", 0o700, nil, api.ErrPerm}, // to write it is not to own it
		{who(7, 7), "/", "/pub/f", 0o600, nil, api.ErrPerm},
		{owner(), "/", "/", 0o777, nil, api.ErrPerm},
		{owner(), "/", "/mine/o", 0o777, nil, api.ErrPerm}, // nor its directory
		{lookalikes()[0], "/", "/pub/f", 0o600, nil, api.ErrPerm},
		{lookalikes()[1], "/", "/pub/f", 0o600, nil, api.ErrPerm},
		{other(), "/", "/pub/nil", 0o600, nil, api.ErrNone},
		{other(), "/", "", 0o600, nil, api.ErrNone},
		{other(), "/", "/pub/f/", 0o600, nil, api.ErrDir}, // ahead of: it is not one's own
		{owner(), "/", "/pub/f/.", 0o600, nil, api.ErrDir},
		{zero(), "/", "/pub/f/x", 0o600, nil, api.ErrDir},
		{other(), "/", "/shut/f", 0o600, nil, api.ErrMay},
		{owner(), "/", "/none/f", 0o600, nil, api.ErrMay},
		{owner(), "/", "fifteen bytes..", 0o600, nil, api.ErrLong},
		{owner(), "/", "\n", 0o600, nil, api.ErrArg},
	} {
		call := func(r *inode.Tree) api.Errno { return walk.Chmod(r, at(r, c.cwd), c.who, c.s, c.mode) }
		expectChange(t, fmt.Sprintf("Chmod(%q, %o) in %s by %d", c.s, c.mode, c.cwd, c.who.Eff), call, c.err, c.change)
		for _, mode := range wrongModes() { // that comes behind all other errors
			err := c.err
			if err == api.OK {
				err = api.ErrArg
			}
			call := func(r *inode.Tree) api.Errno { return walk.Chmod(r, at(r, c.cwd), c.who, c.s, mode) }
			expectChange(t, fmt.Sprintf("Chmod(%q, %o) in %s by %d", c.s, mode, c.cwd, c.who.Eff), call, err, nil)
		}
	}
	r := grow(t, house)
	for _, cwd := range wrongInodes() {
		expect(t, "Chmod", walk.Chmod(r, cwd, zero(), ".", 0o755), api.ErrNone)
		expect(t, "Chmod", walk.Chmod(r, cwd, zero(), "/pub", 0o755), api.OK)
	}
}

// TestChmodModes gives a file every number of four octal digits as mode.
func TestChmodModes(t *testing.T) {
	r := grow(t, house)
	for mode := range 0o10010 {
		want, is := api.OK, mode
		was, _ := r.Stat(at(r, "/pub/f"))
		if mode&^0o5777 != 0 {
			want, is = api.ErrArg, was.Mode
		}
		expect(t, fmt.Sprintf("Chmod(%o)", mode), walk.Chmod(r, 1, owner(), "/pub/f", mode), want)
		was.Mode = is
		if now, _ := r.Stat(was.Ino); now != was {
			t.Fatalf("Chmod(%o): %+v", mode, now)
		}
	}
}

func TestChown(t *testing.T) {
	for _, c := range []struct {
		who          api.Cred
		cwd          string
		s            string
		owner, group int
		change       func(r *inode.Tree)
		err          api.Errno
	}{
		{zero(), "/", "/pub/f", 8, 9, setting("/pub/f", 0o644, 8, 9), api.OK}, // it lends nothing any more
		{zero(), "/", "/pub/f", 5, 7, setting("/pub/f", 0o644, 5, 7), api.OK}, // nor where it stays
		{zero(), "/", "/pub/f", 0, 0, setting("/pub/f", 0o644, 0, 0), api.OK},
		{zero(), "/", "/pub/f", 65535, 65535, setting("/pub/f", 0o644, 65535, 65535), api.OK},
		{zero(), "/pub", "tty", 6, 7, setting("/pub/tty", 0o622, 6, 7), api.OK},
		{zero(), "/", "/tmp/", 5, 0, setting("/tmp", 0o1777, 5, 0), api.OK}, // the sticky bit remains
		{zero(), "/", "/", 5, 7, setting("/", 0o755, 5, 7), api.OK},
		{zero(), "/none", "f", 0, 7, setting("/none/f", 0, 0, 7), api.OK},
		{owner(), "/", "/pub/f", 5, 1, setting("/pub/f", 0o644, 5, 1), api.OK},
		{owner(), "/", "/pub/f", 5, 7, setting("/pub/f", 0o644, 5, 7), api.OK}, // the group that it has
		{owner(), "/", "/shut/f", 5, 1, setting("/shut/f", 0o777, 5, 1), api.OK},
		{owner(), "/mine", ".", 5, 1, setting("/mine", 0o1777, 5, 1), api.OK},
		{owner(), "/", "/none", 5, 1, setting("/none", 0, 5, 1), api.OK},
		{who(5, 7), "/pub", "f", 5, 7, setting("/pub/f", 0o644, 5, 7), api.OK},
		{other(), "/pub", "/tmp/o", 8, 9, setting("/tmp/o", 0o666, 8, 9), api.OK},
		{who(8, 65535), "/pub", "/tmp/o", 8, 65535, setting("/tmp/o", 0o666, 8, 65535), api.OK},

		{owner(), "/", "/pub/f", 8, 7, nil, api.ErrPerm}, // it can't be given away
		{owner(), "/", "/pub/f", 0, 1, nil, api.ErrPerm},
		{owner(), "/", "/pub/f", 5, 0, nil, api.ErrPerm}, // nor come to another group
		{owner(), "/", "/pub/f", 5, 8, nil, api.ErrPerm},
		{owner(), "/", "/pub/f", 5, 92, nil, api.ErrPerm}, // such as the real one
		{owner(), "/", "/pub/f", 5, 5, nil, api.ErrPerm},
		{owner(), "/", "/pub/f", -1, 7, nil, api.ErrPerm},
		{owner(), "/", "/pub/f", 5, -1, nil, api.ErrPerm},
		{owner(), "/", "/pub/f", 5, 65536, nil, api.ErrPerm},
		{other(), "/", "/pub/f", 8, 9, nil, api.ErrPerm}, // nor be taken
		{other(), "/", "/pub/f", 5, 7, nil, api.ErrPerm},
		{other(), "/", "/pub/f", 5, 9, nil, api.ErrPerm},
		{group(), "/", "/pub/f", 5, 7, nil, api.ErrPerm},
		{group(), "/", "/pub/f", 6, 7, nil, api.ErrPerm},
		{other(), "/", "/pub", 8, 9, nil, api.ErrPerm},
		{owner(), "/", "/mine/o", 5, 1, nil, api.ErrPerm},
		{lookalikes()[0], "/", "/pub/f", 5, 7, nil, api.ErrPerm},
		{lookalikes()[1], "/", "/pub/f", 5, 9, nil, api.ErrPerm},
		{zero(), "/", "/pub/f", -1, 7, nil, api.ErrArg},
		{zero(), "/", "/pub/f", 65536, 7, nil, api.ErrArg},
		{zero(), "/", "/pub/f", 5, -1, nil, api.ErrArg},
		{zero(), "/", "/pub/f", 5, 65536, nil, api.ErrArg},
		{zero(), "/", "/pub/f", math.MaxInt, math.MinInt, nil, api.ErrArg},
		{zero(), "/", "/pub/f", 1 << 32, 7, nil, api.ErrArg},
		{who(5, 65536), "/", "/pub/f", 5, 65536, nil, api.ErrArg}, // allowed, but no group
		{who(5, -1), "/", "/pub/f", 5, -1, nil, api.ErrArg},
		{zero(), "/", "/pub/nil", -1, 7, nil, api.ErrNone},
		{other(), "/", "/pub/nil", 8, 9, nil, api.ErrNone},
		{other(), "/", "", 8, 9, nil, api.ErrNone},
		{other(), "/", "/pub/f/", 8, 9, nil, api.ErrDir}, // ahead of: it is not one's own
		{zero(), "/", "/pub/f/.", 8, 9, nil, api.ErrDir},
		{other(), "/", "/shut/f", 8, 9, nil, api.ErrMay},
		{owner(), "/", "/none/f", 5, 7, nil, api.ErrMay},
		{owner(), "/", "/pub/fifteen bytes..", 5, 7, nil, api.ErrLong},
		{owner(), "/", "\x00", 5, 7, nil, api.ErrArg},
	} {
		call := func(r *inode.Tree) api.Errno { return walk.Chown(r, at(r, c.cwd), c.who, c.s, c.owner, c.group) }
		what := fmt.Sprintf("Chown(%q, %d, %d) in %s by %d, %d", c.s, c.owner, c.group, c.cwd, c.who.Eff, c.who.EffGroup)
		expectChange(t, what, call, c.err, c.change)
	}
	r := grow(t, house)
	for _, cwd := range wrongInodes() {
		expect(t, "Chown", walk.Chown(r, cwd, zero(), ".", 0, 0), api.ErrNone)
		expect(t, "Chown", walk.Chown(r, cwd, zero(), "/pub", 0, 0), api.OK)
	}
}

// TestChownBits gives away inodes of each kind: of their bits only set-user-id goes.
func TestChownBits(t *testing.T) {
	for _, letter := range "-dc" {
		for _, mode := range []int{0o5777, 0o4777, 0o1777, 0o4000, 0o4100, 0} {
			text := fmt.Sprintf("/x %c %o 5 7", letter, mode)
			for _, c := range []api.Cred{zero(), owner()} {
				call := func(r *inode.Tree) api.Errno { return walk.Chown(r, 1, c, "/x", 5, 1) }
				expectChangeOf(t, text, "Chown of "+text, call, api.OK, setting("/x", mode&0o1777, 5, 1))
			}
		}
	}
}

func TestPut(t *testing.T) {
	full := strings.Repeat("x", 4096)
	for _, c := range []struct {
		path string
		at   int
		s    string
		want api.Errno
	}{
		{"/pub/f", 0, "", api.OK},
		{"/pub/f", 0, "xy", api.OK},
		{"/pub/f", 4, "more\n", api.OK},
		{"/pub/f", 3, "\x00\xff", api.OK},
		{"/pub/f", 0, full, api.OK},
		{"/none/f", 4, full[:4092], api.OK}, // no rights are asked for
		{"/shut/f", 1, "x", api.OK},
		{"/pub/d/x", 0, "y", api.OK},
		{"/pub/f", -1, "x", api.ErrArg},
		{"/pub/f", 5, "x", api.ErrArg},
		{"/pub/f", 5, "", api.ErrArg},
		{"/pub/f", math.MaxInt, "x", api.ErrArg},
		{"/pub/f", math.MinInt, "", api.ErrArg},
		{"/pub/f", 1, full, api.ErrFull},
		{"/pub/f", 0, full + "x", api.ErrFull},
		{"/shut/f", 6, full, api.ErrFull},
		{"/pub/tty", 0, "x", api.ErrArg},
		{"/pub", 0, "x", api.ErrFile},
		{"/", 0, "", api.ErrFile},
		{"/pub/nil", 0, "x", api.ErrNone},
	} {
		var change func(r *inode.Tree)
		if c.want == api.OK {
			change = func(r *inode.Tree) {
				ino := at(r, c.path)
				n, _ := r.Stat(ino)
				r.Put(ino, c.at, c.s)
				r.Set(ino, n.Mode&0o1777, n.Owner, n.Group)
			}
		}
		call := func(r *inode.Tree) api.Errno { return walk.Put(r, at(r, c.path), c.at, c.s) }
		expectChange(t, fmt.Sprintf("Put(%s, %d, %.9q)", c.path, c.at, c.s), call, c.want, change)
	}
	r := grow(t, house)
	was := view(r)
	for _, ino := range wrongInodes() {
		for _, at := range []int{0, -1, 5} {
			expect(t, "Put", walk.Put(r, ino, at, full+"x"), api.ErrNone)
		}
	}
	expectSame(t, "Put", view(r), was)
}

// TestPutBits writes to files with all kinds of modes: of their bits only set-user-id goes, and only where it is written.
func TestPutBits(t *testing.T) {
	for _, mode := range []int{0o5777, 0o4777, 0o1777, 0o4000, 0o4755, 0o4111, 0} {
		text := fmt.Sprintf("/x - %o 5 7 data\n/y - %o 5 7 data", mode, mode)
		for _, s := range []string{"", "x"} {
			call := func(r *inode.Tree) api.Errno { return walk.Put(r, at(r, "/x"), 1, s) }
			change := func(r *inode.Tree) {
				r.Put(at(r, "/x"), 1, s)
				setting("/x", mode&0o1777, 5, 7)(r)
			}
			expectChangeOf(t, text, fmt.Sprintf("Put(%q) with mode %o", s, mode), call, api.OK, change)
		}
		call := func(r *inode.Tree) api.Errno { return walk.Put(r, at(r, "/x"), 9, "x") }
		expectChangeOf(t, text, fmt.Sprintf("Put with mode %o", mode), call, api.ErrArg, nil)
	}
}
