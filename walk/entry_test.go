package walk_test

import (
	"fmt"
	"strings"
	"testing"

	"almoner/api"
	"almoner/inode"
	"almoner/walk"
)

// split takes an absolute path apart into a directory's inode and a name.
func split(r *inode.Tree, path string) (int, string) {
	cut := strings.LastIndexByte(path, '/')
	return at(r, path[:cut]), path[cut+1:]
}

// removing removes an entry, linking enters an inode into a second directory, and moving moves one, as the tree does that.
func removing(path string) func(r *inode.Tree) {
	return func(r *inode.Tree) {
		dir, name := split(r, path)
		r.Remove(dir, name)
	}
}

func linking(path, as string) func(r *inode.Tree) {
	return func(r *inode.Tree) {
		dir, name := split(r, as)
		r.Enter(dir, name, at(r, path))
	}
}

func moving(path, as string) func(r *inode.Tree) {
	return func(r *inode.Tree) {
		dir, name := split(r, path)
		to, as := split(r, as)
		r.Move(dir, name, to, as)
	}
}

func TestRemove(t *testing.T) {
	for _, c := range []struct {
		who  api.Cred
		cwd  string
		s    string
		dir  bool
		path string // what goes
		err  api.Errno
	}{
		{other(), "/", "/pub/f", false, "/pub/f", api.OK},
		{other(), "/pub/d", "../g", false, "/pub/g", api.OK}, // its own rights don't count
		{other(), "/", "/pub/tty", false, "/pub/tty", api.OK},
		{other(), "/", "/pub/e", true, "/pub/e", api.OK},
		{other(), "/", "/pub/e/", true, "/pub/e", api.OK},
		{other(), "/", "/pub/e/.", true, "/pub/e", api.OK},
		{owner(), "/pub/d", "x", false, "/pub/d/x", api.OK},
		{owner(), "/shut", "f", false, "/shut/f", api.OK},
		{zero(), "/", "/none/f", false, "/none/f", api.OK},

		{other(), "/", "/pub/nil", false, "", api.ErrNone},
		{other(), "/", "/pub/nil/", false, "", api.ErrNone}, // that comes ahead of: it is no directory
		{other(), "/", "/pub/nil", true, "", api.ErrNone},
		{other(), "/", "/pub/d/nil", false, "", api.ErrNone}, // and of the rights
		{owner(), "/", "/look/nil/", true, "", api.ErrNone},
		{other(), "/", "/pub/f", true, "", api.ErrDir},
		{other(), "/", "/pub/f/", false, "", api.ErrDir},
		{other(), "/", "/pub/f/.", true, "", api.ErrDir},
		{other(), "/", "/pub/tty", true, "", api.ErrDir},
		{other(), "/", "/pub/tty/", false, "", api.ErrDir},
		{other(), "/", "/look/f", true, "", api.ErrDir}, // ahead of the rights, too
		{other(), "/", "/look/f/", false, "", api.ErrDir},
		{other(), "/", "/tmp/f/", false, "", api.ErrDir}, // and of the sticky rule
		{other(), "/", "/tmp/f", true, "", api.ErrDir},
		{zero(), "/", "/tmp/f", true, "", api.ErrDir},
		{other(), "/", "/pub/e", false, "", api.ErrFile},
		{other(), "/", "/pub/e/", false, "", api.ErrFile},
		{other(), "/", "/pub/d", false, "", api.ErrFile},
		{other(), "/", "/look/d", false, "", api.ErrFile},
		{other(), "/", "/tmp/d", false, "", api.ErrFile},
		{zero(), "/", "/tmp/d/", false, "", api.ErrFile},
		{other(), "/", "/look/f", false, "", api.ErrMay},
		{owner(), "/", "/look/f", false, "", api.ErrMay},
		{group(), "/", "/pub/d/x", false, "", api.ErrMay},
		{other(), "/", "/pub", true, "", api.ErrMay}, // ahead of: it has entries
		{other(), "/", "/look/d", true, "", api.ErrMay},
		{other(), "/", "/list/f", false, "", api.ErrMay}, // to write without to search
		{other(), "/", "/list/nil", false, "", api.ErrMay},
		{other(), "/", "/shut/f", true, "", api.ErrMay},
		{other(), "/", "/pub/d", true, "", api.ErrBusy},
		{zero(), "/", "/pub/d/", true, "", api.ErrBusy},
		{zero(), "/", "/pub", true, "", api.ErrBusy},

		{other(), "/", "/", true, "", api.ErrArg},
		{other(), "/pub/e", ".", true, "", api.ErrArg},
		{other(), "/pub", "e/..", true, "", api.ErrArg},
		{other(), "/pub", "nil/..", true, "", api.ErrArg},
		{other(), "/pub", "", false, "", api.ErrNone},
		{other(), "/pub", "nil/x", false, "", api.ErrNone},
		{other(), "/pub", "f/x", false, "", api.ErrDir},
		{other(), "/pub", "fifteen bytes..", false, "", api.ErrLong},
		{other(), "/pub", "f\x00", false, "", api.ErrArg},
	} {
		var change func(r *inode.Tree)
		if c.err == api.OK {
			change = removing(c.path)
		}
		call := func(r *inode.Tree) api.Errno { return walk.Remove(r, at(r, c.cwd), c.who, c.s, c.dir) }
		expectChange(t, fmt.Sprintf("Remove(%q, %v) in %s by %d", c.s, c.dir, c.cwd, c.who.Eff), call, c.err, change)
	}
	r := grow(t, house)
	for _, cwd := range wrongInodes() {
		expect(t, "Remove", walk.Remove(r, cwd, other(), "f", false), api.ErrNone)
		expect(t, "Remove", walk.Remove(r, cwd, other(), "..", false), api.ErrArg)
		expect(t, "Remove", walk.Remove(r, cwd, other(), "/pub/d/x", false), api.ErrMay)
	}
}

// TestRemoveHeld removes the entries of what is held, and of what has another entry.
func TestRemoveHeld(t *testing.T) {
	r := grow(t, house)
	ino, err := walk.Open(r, 1, other(), "/pub/f", api.How{Want: rd})
	expect(t, "Open", err, api.OK)
	expect(t, "Link", walk.Link(r, 1, other(), "/pub/f", "/pub/e/g"), api.OK)
	expect(t, "Remove", walk.Remove(r, 1, other(), "/pub/f", false), api.OK)
	expectFound(t, r, 1, other(), "/pub/e/g", ino, api.OK)
	expect(t, "Remove", walk.Remove(r, 1, other(), "/pub/e/g", false), api.OK)
	if info, _ := r.Stat(ino); r.Data(ino) != "data" || info.Links != 0 {
		t.Errorf("%+v, %q", info, r.Data(ino))
	}
	r.Drop(ino)
	if _, ok := r.Stat(ino); ok {
		t.Error("it is still there")
	}
}

// stickyCase is a caller, a directory's and an entry's owner, and whether the sticky rule is satisfied if it is sticky.
type stickyCase struct {
	who      api.Cred
	dir, own int
	ok       bool
}

func stickyCases() []stickyCase {
	return []stickyCase{
		{who(8, 9), 8, 8, true}, {who(8, 9), 8, 5, true}, {who(8, 9), 5, 8, true}, {who(8, 9), 5, 5, false}, {who(8, 9), 0, 0, false},
		{who(8, 0), 0, 0, false}, {who(8, 9), 8, 0, true}, {who(8, 9), 0, 8, true}, {who(8, 9), 5, 6, false},
		{who(0, 9), 5, 5, true}, {who(0, 0), 0, 0, true}, {who(0, 9), 0, 5, true}, {who(0, 9), 8, 0, true},
		{api.Cred{Real: 5, Eff: 8, Saved: 5, Group: 5, EffGroup: 5}, 5, 5, false},
		{api.Cred{Real: 0, Eff: 8, Saved: 0, Group: 0, EffGroup: 0}, 5, 5, false},
		{api.Cred{Real: 8, Eff: 5, Saved: 8, Group: 8, EffGroup: 8}, 8, 8, false},
		{who(8, 9), 9, 90, false},
		{who(90, 8), 8, 8, false},
	}
}

// TestSticky removes, replaces and moves entries of directories that are sticky or aren't. Group 3 is nobody's.
func TestSticky(t *testing.T) {
	for _, c := range stickyCases() {
		for _, mode := range []int{0o1777, 0o777, 0o5777, 0o4777, 0o1722, 0o1733, 0o555, 0o1555} {
			allowed := has(api.Info{Kind: api.KindDir, Mode: mode, Owner: c.dir, Group: 3}, c.who, api.Write+api.Search)
			rule := mode&0o1000 == 0 || c.ok
			want := api.OK
			switch {
			case !allowed: // that comes ahead of the sticky rule
				want = api.ErrMay
			case !rule:
				want = api.ErrPerm
			}
			const text = "/open d 777 99 3\n/open/f - 600 99 3\n/open/d d 700 99 3\n/s d %o %d 3\n/s/f - 666 %d 3\n/s/d d 777 %[3]d 3\n/s/t c 666 %[3]d 3\n/s/x - 666 98 3"
			house := fmt.Sprintf(text, mode, c.dir, c.own)
			check := func(what string, want api.Errno, call func(r *inode.Tree) api.Errno, change func(r *inode.Tree)) {
				t.Helper()
				if want != api.OK {
					change = nil
				}
				what = fmt.Sprintf("%s with mode %o of %d, entry of %d, by %+v", what, mode, c.dir, c.own, c.who)
				expectChangeOf(t, house, what, call, want, change)
			}
			for name, dir := range map[string]bool{"f": false, "t": false, "d": true} {
				path, old := "/s/"+name, "/open/f"
				if dir {
					old = "/open/d"
				}
				check("Remove "+name, want, func(r *inode.Tree) api.Errno { return walk.Remove(r, 1, c.who, path, dir) }, removing(path))
				check("Rename out "+name, want, func(r *inode.Tree) api.Errno { return walk.Rename(r, 1, c.who, path, "/open/new") }, moving(path, "/open/new"))
				check("Rename onto "+name, want, func(r *inode.Tree) api.Errno { return walk.Rename(r, 1, c.who, old, path) }, moving(old, path))
				check("Rename within "+name, want, func(r *inode.Tree) api.Errno { return walk.Rename(r, 1, c.who, path, "/s/new") }, moving(path, "/s/new"))
				check("Rename as it is "+name, want, func(r *inode.Tree) api.Errno { return walk.Rename(r, 1, c.who, path, path) }, nothing)
			}
			free := want // where there is no entry the sticky rule says nothing
			if want == api.ErrPerm {
				free = api.OK
			}
			check("Rename in", free, func(r *inode.Tree) api.Errno { return walk.Rename(r, 1, c.who, "/open/f", "/s/new") }, moving("/open/f", "/s/new"))
			check("Link in", free, func(r *inode.Tree) api.Errno { return walk.Link(r, 1, c.who, "/open/f", "/s/new") }, linking("/open/f", "/s/new"))
			check("Link out", api.OK, func(r *inode.Tree) api.Errno { return walk.Link(r, 1, zero(), "/s/f", "/open/new") }, linking("/s/f", "/open/new"))
			onto := want // one's own onto another's of the same directory: both count
			if want == api.OK && mode&0o1000 != 0 && c.who.Eff != 0 && c.who.Eff != c.dir {
				onto = api.ErrPerm
			}
			check("Rename onto x", onto, func(r *inode.Tree) api.Errno { return walk.Rename(r, 1, c.who, "/s/f", "/s/x") }, moving("/s/f", "/s/x"))
			check("Rename x onto", onto, func(r *inode.Tree) api.Errno { return walk.Rename(r, 1, c.who, "/s/x", "/s/f") }, moving("/s/x", "/s/f"))
		}
	}
}

func TestLink(t *testing.T) {
	for _, c := range []struct {
		who      api.Cred
		cwd      string
		s, as    string
		path, to string
		err      api.Errno
	}{
		{other(), "/", "/pub/f", "/pub/new", "/pub/f", "/pub/new", api.OK},
		{other(), "/pub", "g", "e/new", "/pub/g", "/pub/e/new", api.OK}, // its own rights don't count
		{other(), "/pub/d", "x", "../new", "/pub/d/x", "/pub/new", api.OK},
		{other(), "/pub/e", "../tty", "f", "/pub/tty", "/pub/e/f", api.OK},
		{other(), "/", "/look/f", "/tmp/new", "/look/f", "/tmp/new", api.OK}, // nor those to write where it stands
		{owner(), "/", "/shut/f", "/pub/new", "/shut/f", "/pub/new", api.OK},
		{zero(), "/none", "f", "/new", "/none/f", "/new", api.OK},
		{zero(), "/pub", "f", "../none/new", "/pub/f", "/none/new", api.OK},

		{other(), "/pub", "nil", "nil/x", "", "", api.ErrNone}, // the errors of Find
		{other(), "/pub", "nil", "new", "", "", api.ErrNone},
		{other(), "/pub", "", "..", "", "", api.ErrNone},
		{other(), "/pub", "fifteen bytes..", "new", "", "", api.ErrLong},
		{other(), "/pub", "f\n", "new", "", "", api.ErrArg},
		{other(), "/pub", "f/", "..", "", "", api.ErrDir},
		{other(), "/pub", "f/x", "new", "", "", api.ErrDir},
		{other(), "/pub", "/shut/f", "..", "", "", api.ErrMay},
		{other(), "/pub", "d", "new", "", "", api.ErrFile},
		{other(), "/pub", "..", "new", "", "", api.ErrFile},
		{other(), "/pub", "/", "", "", "", api.ErrFile}, // ahead of those of Parent
		{other(), "/pub", "d/", "..", "", "", api.ErrFile},
		{zero(), "/pub", "e", "g", "", "", api.ErrFile},
		{zero(), "/pub", "e", "nil/x", "", "", api.ErrFile},
		{other(), "/pub", "f", "", "", "", api.ErrNone},
		{other(), "/pub", "f", "nil/x", "", "", api.ErrNone},
		{other(), "/pub", "f", "fifteen bytes..", "", "", api.ErrLong},
		{other(), "/pub", "f", "x\x1f", "", "", api.ErrArg},
		{other(), "/pub", "f", "/", "", "", api.ErrArg},
		{other(), "/pub", "f", ".", "", "", api.ErrArg},
		{other(), "/pub", "f", "e/..", "", "", api.ErrArg},
		{other(), "/pub", "f", "g/x", "", "", api.ErrDir},
		{other(), "/pub", "f", "/shut/new", "", "", api.ErrMay},
		{other(), "/pub", "f", "/list/new", "", "", api.ErrMay},
		{other(), "/pub", "f", "g", "", "", api.ErrIs},
		{other(), "/pub", "f", "f", "", "", api.ErrIs},
		{other(), "/pub", "f", "g/", "", "", api.ErrIs}, // ahead of: it is no directory
		{other(), "/pub", "f", "d/", "", "", api.ErrIs},
		{other(), "/pub", "f", "d/x", "", "", api.ErrIs}, // and of the rights
		{zero(), "/pub", "f", "d", "", "", api.ErrIs},
		{other(), "/pub", "f", "new/", "", "", api.ErrDir},
		{other(), "/pub", "f", "new/.", "", "", api.ErrDir},
		{other(), "/pub", "f", "d/new/", "", "", api.ErrDir}, // ahead of the rights, too
		{zero(), "/pub", "f", "new/", "", "", api.ErrDir},
		{other(), "/pub", "f", "d/new", "", "", api.ErrMay},
		{group(), "/pub", "f", "d/new", "", "", api.ErrMay},
		{owner(), "/pub", "f", "/look/new", "", "", api.ErrMay},
		{owner(), "/pub", "f", "/new", "", "", api.ErrMay},
	} {
		var change func(r *inode.Tree)
		if c.err == api.OK {
			change = linking(c.path, c.to)
		}
		call := func(r *inode.Tree) api.Errno { return walk.Link(r, at(r, c.cwd), c.who, c.s, c.as) }
		expectChange(t, fmt.Sprintf("Link(%q, %q) in %s by %d", c.s, c.as, c.cwd, c.who.Eff), call, c.err, change)
	}
	r := grow(t, house)
	for _, cwd := range wrongInodes() {
		expect(t, "Link", walk.Link(r, cwd, other(), "pub/f", "/pub/new"), api.ErrNone)
		expect(t, "Link", walk.Link(r, cwd, other(), "/pub/f", "new"), api.ErrNone)
		expect(t, "Link", walk.Link(r, cwd, other(), "/pub/f", "/pub/g"), api.ErrIs)
	}
}

// TestLinkFull links what has as many links as it may have, and to a directory that is full.
func TestLinkFull(t *testing.T) {
	r := grow(t, room())
	fill(r)
	was := view(r)
	for _, c := range []struct {
		s, as string
		want  api.Errno
	}{
		{"/room/n00", "/pub/new", api.ErrMany},
		{"/room/n00", "/room/new", api.ErrMany},
		{"/room/n00", "/room/new/", api.ErrDir},
		{"/room/n00", "/look/new", api.ErrMay}, // what the tree refuses comes last
		{"/room/n00", "/room/n10", api.ErrIs},
		{"/pub/f", "/room/new", api.ErrFull},
		{"/pub/f", "/room/n00", api.ErrIs},
		{"/pub/f", "/room/new/.", api.ErrDir},
		{"/pub/d", "/room/new", api.ErrFile},
	} {
		expect(t, fmt.Sprintf("Link(%q, %q)", c.s, c.as), walk.Link(r, 1, other(), c.s, c.as), c.want)
	}
	expectSame(t, "Link", view(r), was)
	expect(t, "Remove", walk.Remove(r, 1, other(), "/room/n00", false), api.OK)
	expect(t, "Link", walk.Link(r, 1, other(), "/room/n01", "/pub/new"), api.OK)
	expect(t, "Link", walk.Link(r, 1, other(), "/pub/f", "/room/n00"), api.OK)
	expect(t, "Link", walk.Link(r, 1, other(), "/room/n01", "/pub/newer"), api.ErrMany)
}

func TestRename(t *testing.T) {
	for _, c := range []struct {
		who      api.Cred
		cwd      string
		s, as    string
		path, to string
		err      api.Errno
	}{
		{other(), "/", "/pub/f", "/pub/new", "/pub/f", "/pub/new", api.OK},
		{other(), "/pub", "g", "e/new", "/pub/g", "/pub/e/new", api.OK}, // its own rights don't count
		{other(), "/pub", "f", "g", "/pub/f", "/pub/g", api.OK},         // nor those of what is replaced
		{other(), "/pub/d", "../tty", "../f", "/pub/tty", "/pub/f", api.OK},
		{other(), "/pub", "d", "e", "/pub/d", "/pub/e", api.OK},
		{other(), "/pub", "d/", "e/.", "/pub/d", "/pub/e", api.OK},
		{other(), "/pub", "d", "new/", "/pub/d", "/pub/new", api.OK},
		{other(), "/pub", "d", "e/d", "/pub/d", "/pub/e/d", api.OK},
		{owner(), "/", "/shut/f", "/pub/d/f", "/shut/f", "/pub/d/f", api.OK},
		{zero(), "/none", "f", "/new", "/none/f", "/new", api.OK},
		{zero(), "/", "pub", "none/pub", "/pub", "/none/pub", api.OK},

		{other(), "/pub", "", "..", "", "", api.ErrNone}, // the errors of Parent for what is moved
		{other(), "/pub", "fifteen bytes..", "new", "", "", api.ErrLong},
		{other(), "/pub", "f\n", "", "", "", api.ErrArg},
		{other(), "/pub", "/", "", "", "", api.ErrArg},
		{other(), "/pub", ".", "nil/x", "", "", api.ErrArg},
		{other(), "/pub", "d/..", "nil/x", "", "", api.ErrArg},
		{other(), "/pub", "nil/x", "..", "", "", api.ErrNone},
		{other(), "/pub", "f/x", "..", "", "", api.ErrDir},
		{other(), "/pub", "/shut/f", "..", "", "", api.ErrMay},
		{other(), "/pub", "nil", "..", "", "", api.ErrNone},
		{other(), "/pub", "nil", "new", "", "", api.ErrNone},
		{other(), "/pub", "nil/", "f/x", "", "", api.ErrNone},
		{other(), "/pub", "d/nil", "new", "", "", api.ErrNone}, // that comes ahead of the rights
		{other(), "/pub", "f", "", "", "", api.ErrNone},        // those for the other one
		{other(), "/pub", "f", "fifteen bytes..", "", "", api.ErrLong},
		{other(), "/pub", "f", "x\x7f", "", "", api.ErrArg},
		{other(), "/pub", "f", "..", "", "", api.ErrArg},
		{other(), "/pub", "f/", ".", "", "", api.ErrArg},
		{other(), "/pub", "f", "nil/x", "", "", api.ErrNone},
		{other(), "/pub", "f/", "nil/x", "", "", api.ErrNone}, // ahead of: it is no directory
		{other(), "/pub", "f/", "g/x", "", "", api.ErrDir},
		{other(), "/pub", "f/", "/shut/x", "", "", api.ErrMay},
		{other(), "/pub", "f", "/list/x", "", "", api.ErrMay},
		{other(), "/pub", "f/", "new", "", "", api.ErrDir},
		{other(), "/pub", "f", "new/", "", "", api.ErrDir},
		{other(), "/pub", "f", "g/", "", "", api.ErrDir},
		{other(), "/pub", "f", "e/", "", "", api.ErrDir}, // what is moved counts, not what is replaced
		{other(), "/pub", "tty/.", "e", "", "", api.ErrDir},
		{zero(), "/pub", "f", "f/", "", "", api.ErrDir},
		{other(), "/pub", "d/x/", "new", "", "", api.ErrDir}, // ahead of the rights
		{other(), "/pub", "f", "d/new/.", "", "", api.ErrDir},
		{other(), "/", "tmp/f/", "tmp/new", "", "", api.ErrDir}, // and of the sticky rule
		{other(), "/pub", "d/x", "new", "", "", api.ErrMay},
		{other(), "/pub", "f", "d/new", "", "", api.ErrMay},
		{other(), "/pub", "f", "d/x", "", "", api.ErrMay},
		{other(), "/pub", "d/x", "d/new", "", "", api.ErrMay},
		{group(), "/pub", "d/x", "d/new", "", "", api.ErrMay},
		{owner(), "/pub", "/look/f", "new", "", "", api.ErrMay},
		{owner(), "/pub", "f", "/look/new", "", "", api.ErrMay},
		{owner(), "/pub", "f", "/look/f", "", "", api.ErrMay},
		{other(), "/pub", "f", "/look/d", "", "", api.ErrMay}, // ahead of: one of them is a directory
		{other(), "/pub", "d/x", "d/x", "", "", api.ErrMay},   // also where nothing would happen
		{other(), "/tmp", "f", "/look/f", "", "", api.ErrMay}, // ahead of the sticky rule
		{other(), "/tmp", "/look/f", "f", "", "", api.ErrMay},
		{other(), "/tmp", "f", "/pub/new", "", "", api.ErrPerm},
		{other(), "/tmp", "/pub/f", "f", "", "", api.ErrPerm},
		{other(), "/tmp", "/pub/d", "f", "", "", api.ErrPerm},        // ahead of: one of them is a directory
		{other(), "/tmp", "d", "d/x", "", "", api.ErrMay},            // one may not search that
		{owner(), "/tmp", "d", "d/x", "", "", api.ErrBusy},           // below itself
		{other(), "/pub", "/mine/z", "/mine/o", "", "", api.ErrPerm}, // the one is 0's, the other one's own
		{other(), "/pub", "/mine/o", "/mine/z", "", "", api.ErrPerm},
		{other(), "/pub", "/mine/o", "/mine/new", "/mine/o", "/mine/new", api.OK},
		{other(), "/pub", "/mine/o", "/tmp/o", "/mine/o", "/tmp/o", api.OK},
		{other(), "/pub", "/mine/o", "/tmp/f", "", "", api.ErrPerm},
		{other(), "/pub", "/tmp/o", "/mine/z", "", "", api.ErrPerm},
		{owner(), "/pub", "/mine/z", "/mine/o", "/mine/z", "/mine/o", api.OK},
		{owner(), "/pub", "/mine/z", "/tmp/f", "/mine/z", "/tmp/f", api.OK},
		{owner(), "/pub", "/mine/z", "/tmp/o", "", "", api.ErrPerm},

		{other(), "/pub", "f", "e", "", "", api.ErrFile}, // what the tree refuses comes last
		{other(), "/pub", "e", "f", "", "", api.ErrFile},
		{other(), "/pub", "d/", "tty", "", "", api.ErrFile},
		{other(), "/pub", "e", "d", "", "", api.ErrBusy},
		{other(), "/pub", "e", "e/x", "", "", api.ErrBusy},
		{zero(), "/", "pub", "pub/d/x", "", "", api.ErrBusy},
		{zero(), "/", "pub", "pub/d/new", "", "", api.ErrBusy},
	} {
		var change func(r *inode.Tree)
		if c.err == api.OK {
			change = moving(c.path, c.to)
		}
		call := func(r *inode.Tree) api.Errno { return walk.Rename(r, at(r, c.cwd), c.who, c.s, c.as) }
		expectChange(t, fmt.Sprintf("Rename(%q, %q) in %s by %d", c.s, c.as, c.cwd, c.who.Eff), call, c.err, change)
	}
	r := grow(t, house)
	for _, cwd := range wrongInodes() {
		expect(t, "Rename", walk.Rename(r, cwd, other(), "pub/f", "/pub/new"), api.ErrNone)
		expect(t, "Rename", walk.Rename(r, cwd, other(), "/pub/f", "new"), api.ErrNone)
		expect(t, "Rename", walk.Rename(r, cwd, other(), "/pub/f", "/pub/e"), api.ErrFile)
	}
}

// TestRenameAsItIs moves entries onto those of the same inode: nothing happens.
func TestRenameAsItIs(t *testing.T) {
	r := grow(t, house)
	expect(t, "Link", walk.Link(r, 1, other(), "/pub/f", "/pub/e/f"), api.OK)
	was := view(r)
	for _, c := range [][2]string{{"/pub/f", "/pub/f"}, {"/pub/f", "/pub/e/f"}, {"/pub/e/f", "/pub/f"}, {"/pub/d", "/pub/d/."}, {"/pub/e/", "/pub/e"}} {
		expect(t, fmt.Sprint("Rename", c), walk.Rename(r, 1, other(), c[0], c[1]), api.OK)
	}
	expectSame(t, "Rename", view(r), was)
}

// TestRenameFull moves entries to a directory that is full.
func TestRenameFull(t *testing.T) {
	r := grow(t, room())
	fill(r)
	was := view(r)
	expect(t, "Rename", walk.Rename(r, 1, other(), "/pub/f", "/room/new"), api.ErrFull)
	expect(t, "Rename", walk.Rename(r, 1, other(), "/pub/d/x", "/room/new"), api.ErrMay)
	expect(t, "Rename", walk.Rename(r, 1, other(), "/tmp/f", "/room/new"), api.ErrPerm)
	expect(t, "Rename", walk.Rename(r, 1, other(), "/pub/f", "/room/new/"), api.ErrDir)
	expectSame(t, "Rename", view(r), was)
	expect(t, "Rename", walk.Rename(r, 1, other(), "/room/n00", "/room/new"), api.OK)
	expect(t, "Rename", walk.Rename(r, 1, other(), "/pub/f", "/room/n10"), api.OK)
	expect(t, "Rename", walk.Rename(r, 1, other(), "/room/n20", "/pub/n20"), api.OK)
	expect(t, "Rename", walk.Rename(r, 1, other(), "/pub/g", "/room/g"), api.OK)
}

// TestEntryRights removes, links and moves in directories with each mode of modes.
func TestEntryRights(t *testing.T) {
	const text = "/d d 0 5 7\n/d/f - 0 5 7\n/open d 777 0 0\n/open/f - 0 0 0"
	r := grow(t, text)
	dir, open := at(r, "/d"), at(r, "/open")
	file, mine := at(r, "/open/f"), at(r, "/d/f")
	for _, mode := range modes() {
		mode &^= 0o1000 // the sticky rule has a test of its own
		expect(t, "Set", r.Set(dir, mode, 5, 7), api.OK)
		info, _ := r.Stat(dir)
		for _, c := range callers() {
			write, search := api.ErrMay, api.ErrMay
			if has(info, c, api.Write+api.Search) {
				write = api.OK
			}
			if has(info, c, api.Search) {
				search = api.OK
			}
			what := fmt.Sprintf("mode %o by %+v", mode, c)
			expect(t, "Remove, "+what, walk.Remove(r, 1, c, "/d/f", false), write)
			r.Remove(dir, "f")
			mine = again(r, dir, "f")
			expect(t, "Link in, "+what, walk.Link(r, 1, c, "/open/f", "/d/new"), write)
			r.Remove(dir, "new")
			expect(t, "Link out, "+what, walk.Link(r, 1, c, "/d/f", "/open/new"), search)
			r.Remove(open, "new")
			expect(t, "Rename in, "+what, walk.Rename(r, 1, c, "/open/f", "/d/new"), write)
			r.Move(dir, "new", open, "f")
			expect(t, "Rename out, "+what, walk.Rename(r, 1, c, "/d/f", "/open/new"), write)
			r.Move(open, "new", dir, "f")
			if at(r, "/open/f") != file || at(r, "/d/f") != mine || len(r.Names(dir))+len(r.Names(open)) != 2 {
				t.Fatalf("%s: %v, %v", what, r.Names(dir), r.Names(open))
			}
		}
	}
}

// again makes a file and enters it.
func again(r *inode.Tree, dir int, name string) int {
	ino, _ := r.Make(api.KindFile, 0, 5, 7, 0)
	r.Enter(dir, name, ino)
	r.Drop(ino)
	return ino
}
