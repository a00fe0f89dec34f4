package walk

import (
	"almoner/api"
	"almoner/inode"
)

// Remove removes an entry: that of a directory if dir is set, else of anything
// else.
func Remove(t *inode.Tree, cwd int, c api.Cred, s string, dir bool) api.Errno {
	who := callerOf(t, cwd, c)
	at, err := who.locate(s)
	switch {
	case err != api.OK:
		return err
	case !at.taken:
		return api.ErrNone
	case (dir || at.mustDir) && !isDir(at.entry):
		return api.ErrDir
	case !dir && isDir(at.entry):
		return api.ErrFile
	case !who.may(at.dir, api.Write):
		return api.ErrMay
	case !who.keepsSticky(at):
		return api.ErrPerm
	}
	return t.Remove(at.dir.Ino, at.name)
}

// keepsSticky reports whether the caller satisfies the sticky rule for an
// entry.
func (c caller) keepsSticky(at place) bool {
	return at.dir.Mode&sticky == 0 || c.isZero() || c.owns(at.dir) || c.owns(at.entry)
}

// Link adds an entry for what has one already.
func Link(t *inode.Tree, cwd int, c api.Cred, s, as string) api.Errno {
	who := callerOf(t, cwd, c)
	n, err := who.find(s)
	switch {
	case err != api.OK:
		return err
	case isDir(n):
		return api.ErrFile
	}
	at, err := who.locate(as)
	switch {
	case err != api.OK:
		return err
	case at.taken:
		return api.ErrIs
	case at.mustDir:
		return api.ErrDir
	case !who.may(at.dir, api.Write):
		return api.ErrMay
	}
	return t.Enter(at.dir.Ino, at.name, n.Ino)
}

// Rename moves an entry, in place of one that has its new name.
func Rename(t *inode.Tree, cwd int, c api.Cred, s, as string) api.Errno {
	who := callerOf(t, cwd, c)
	from, err := who.locate(s)
	switch {
	case err != api.OK:
		return err
	case !from.taken:
		return api.ErrNone
	}
	to, err := who.locate(as)
	switch {
	case err != api.OK:
		return err
	case (from.mustDir || to.mustDir) && !isDir(from.entry):
		return api.ErrDir
	case !who.may(from.dir, api.Write) || !who.may(to.dir, api.Write):
		return api.ErrMay
	case !who.keepsSticky(from) || to.taken && !who.keepsSticky(to):
		return api.ErrPerm
	}
	return t.Move(from.dir.Ino, from.name, to.dir.Ino, to.name)
}

// Chmod sets the mode of an inode.
func Chmod(t *inode.Tree, cwd int, c api.Cred, s string, mode int) api.Errno {
	who := callerOf(t, cwd, c)
	n, err := who.find(s)
	switch {
	case err != api.OK:
		return err
	case !who.isZero() && !who.owns(n):
		return api.ErrPerm
	}
	return t.Set(n.Ino, mode, n.Owner, n.Group)
}

// Chown sets the owner and the group of an inode. What it was lending was the
// old owner's: it lends nothing any more.
func Chown(t *inode.Tree, cwd int, c api.Cred, s string, owner, group int) api.Errno {
	who := callerOf(t, cwd, c)
	n, err := who.find(s)
	switch {
	case err != api.OK:
		return err
	case !who.isZero() && !who.mayGive(n, owner, group):
		return api.ErrPerm
	}
	return t.Set(n.Ino, n.Mode&^setUser, owner, group)
}

// mayGive reports whether an inode is the caller's, remains so, and comes to a
// group of the caller's or stays in its own.
func (c caller) mayGive(n api.Info, owner, group int) bool {
	return c.owns(n) && owner == n.Owner && (group == c.gid || group == n.Group)
}

// Put writes into the data of a file. It asks for no rights: they were asked
// for when the file was opened.
func Put(t *inode.Tree, ino, at int, s string) api.Errno {
	if err := t.Put(ino, at, s); err != api.OK {
		return err
	}
	n, _ := t.Stat(ino)
	clearSetUser(t, n)
	return api.OK
}

// clearSetUser makes a file that is written lend its owner's id no more: who
// writes it may be somebody else.
func clearSetUser(t *inode.Tree, n api.Info) {
	t.Set(n.Ino, n.Mode&^setUser, n.Owner, n.Group)
}
